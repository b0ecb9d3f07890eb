import Derived.Test.YtpgdddjjjfkneaaGreatDoorGb
import Derived.Test.YtpgdddjjjfkneaaGreatDoorSe
import Derived.Test.YtpgdddjjjfkneaaGreatDoorSdW
/-
  Plain mathematics of TopParted (what a text that is read has; a run's states are right; works), and its walk, given what stepped does. No condition but that.
-/
namespace Go.Proofs.YtpgdddjjjfkneaaGreatDoor
open Go.ChangeShapes Go.WideShapes Go.ChangeAt Go.RowKit
set_option linter.unusedVariables false

theorem go_len : ∀ (f k : Nat) (N : Int) (es : List Ed) (l : List UInt8), es.length ≤ 80 → (goL f k N es l).1.2.length ≤ 80 := by
  intro f
  induction f with
  | zero => intro k N es l h; simp [goL]
  | succ f ih =>
    intro k N es l h
    rw [goL]
    split
    · split
      · split
        · simp
        · exact ih _ _ _ _ (by simp)
      · simp
    · split
      · split
        · exact readE_len h
        · exact ih _ _ _ _ (readE_len h)
      · simp
theorem parse_len (l : List UInt8) : (parseL l).1.2.length ≤ 80 := by
  unfold parseL
  split
  · simp
  · exact go_len _ _ _ _ _ (by simp)
theorem go_err : ∀ (f k : Nat) (N : Int) (es : List Ed) (l : List UInt8), ¬ (goL f k N es l).2.2 = 0 → (goL f k N es l).1 = (0, []) := by
  intro f
  induction f with
  | zero => intro k N es l h; rfl
  | succ f ih =>
    intro k N es l h
    rw [goL] at h ⊢
    split at h
    · rename_i h1
      rw [if_pos h1]
      split at h
      · rename_i h2
        rw [if_pos h2]
        split at h
        · exact absurd rfl h
        · rename_i h3; rw [if_neg h3]; exact ih _ _ _ _ h
      · rename_i h2; rw [if_neg h2]
    · rename_i h1
      rw [if_neg h1]
      split at h
      · rename_i h2
        rw [if_pos h2]
        split at h
        · exact absurd rfl h
        · rename_i h3; rw [if_neg h3]; exact ih _ _ _ _ h
      · rename_i h2; rw [if_neg h2]
theorem parse_err {l : List UInt8} (h : ¬ (parseL l).2.2 = 0) : (parseL l).1 = (0, []) := by
  unfold parseL at h ⊢
  split at h
  · rename_i h1; rw [if_pos h1]
  · rename_i h1; rw [if_neg h1]; exact go_err _ _ _ _ _ h
theorem err_chk {l : List UInt8} (h : ¬ (parseL l).2.2 = 0) (p s li q : Int) : ¬ jchk (parseL l).1.1 (parseL l).1.2 p s li q = 0 := by
  intro hj
  have := (jchk_N hj).1
  rw [parse_err h] at this
  simp at this
theorem ans_uniq {N : Int} {es : List Ed} {p s l q : Int} {kd st kd' st' : Int} {vs vs' : List Int} (h : IsAns N es p s l q kd st vs) (h' : IsAns N es p s l q kd' st' vs') : kd = kd' ∧ st = st' ∧ vs = vs' := by
  rcases h with ⟨hj, h1, h2, h3⟩ | ⟨hj, k, S, hk, h0, h1, h2, h3⟩
  · rcases h' with ⟨_, h1', h2', h3'⟩ | ⟨hj', _⟩
    · exact ⟨h1.trans h1'.symm, h2.trans h2'.symm, h3.trans h3'.symm⟩
    · exact absurd hj' hj
  · rcases h' with ⟨hj', _⟩ | ⟨_, k', S', hk', h0', h1', h2', h3'⟩
    · exact absurd hj hj'
    · obtain ⟨_, rfl⟩ := end_uniq hk h0 hk' h0'
      have e := h1.trans h1'.symm
      subst e
      exact ⟨rfl, h2.trans h2'.symm, h3.trans h3'.symm⟩
theorem begin_right {N : Int} {es : List Ed} {p s l q : Int} (h : jchk N es p s l q = 0) : rightB N es p s l q (beginS N p s) = true := by
  have hN := jchk_N h
  refine right_is ⟨h, ⟨by simp [beginS], by simp [beginS]⟩, ?_, ?_, rfl⟩
  · simp [beginS]; omega
  · simp [beginS]; omega
/-- The kinds with which the loop ends: done, or out of steps. -/
def kindI (S : St) : Int := if quietB S = true then 1 else 3
theorem onw_ends {N : Int} {es : List Ed} {p s l q : Int} {S : St} (h : quietB S = true ∨ S.step = l) : (onwR N es p s l q S).2 = kindI S := by
  unfold onwR kindI
  by_cases h1 : quietB S = true
  · rw [if_pos h1, if_pos h1]
  · rw [if_neg h1, if_neg h1, if_pos (h.resolve_left h1)]
theorem kind_or (S : St) : kindI S = 1 ∨ kindI S = 3 := by unfold kindI; split <;> simp
theorem end_ans {N : Int} {es : List Ed} {p s l q : Int} {S : St} {k : Nat} {kd st : Int} {vs : List Int} (ha : IsAns N es p s l q kd st vs) (hj : jchk N es p s l q = 0) (hk : stAt N es p s l q k = some S) (h : quietB S = true ∨ S.step = l) : kd = kindI S ∧ st = S.step ∧ vs = S.vals := by
  have e := onw_ends (N := N) (es := es) (p := p) (s := s) (l := l) (q := q) h
  have hd : ¬ (onwR N es p s l q S).2 = 0 := by rw [e]; rcases kind_or S with h | h <;> rw [h] <;> decide
  refine ans_uniq ha (.inr ⟨hj, k, S, hk, hd, e.symm, rfl, ?_⟩)
  rw [if_neg]
  rcases kind_or S with h | h <;> rw [h] <;> decide
theorem over_ans {N : Int} {es : List Ed} {p s l q : Int} {S : St} {k : Nat} {kd st : Int} {vs : List Int} (ha : IsAns N es p s l q kd st vs) (hj : jchk N es p s l q = 0) (hk : stAt N es p s l q k = some S) (h1 : quietB S = false) (h2 : ¬ S.step = l) (h8 : (stepR N es p s l q S).2 = 8) : kd = 2 ∧ st = S.step ∧ vs = [] := by
  have e : (onwR N es p s l q S).2 = 2 := by
    unfold onwR; rw [if_neg (by rw [h1]; decide), if_neg h2, if_neg (by rw [h8]; decide)]
  exact ans_uniq ha (.inr ⟨hj, k, S, hk, by rw [e]; decide, e.symm, rfl, by rw [if_pos rfl]⟩)
theorem next_at {N : Int} {es : List Ed} {p s l q : Int} {S : St} {k : Nat} (hk : stAt N es p s l q k = some S) (h1 : quietB S = false) (h2 : ¬ S.step = l) (h0 : (stepR N es p s l q S).2 = 0) : stAt N es p s l q (k + 1) = some (stepR N es p s l q S).1 := by
  have e : onwR N es p s l q S = ((stepR N es p s l q S).1, 0) := by
    unfold onwR; rw [if_neg (by rw [h1]; decide), if_neg h2, if_pos h0]
  rw [stAt_next hk (by rw [e]), e]
def exT : List UInt8 := [103, 114, 97, 112, 104, 32, 50, 10, 101, 100, 103, 101, 32, 48, 32, 49, 32, 55, 10]
theorem ex_parse : parseL exT = ((2, [(0, 1, 7)]), 0, 0) := by kernel_rfl
def exS : St := ⟨2, [0, 7], [true, true], []⟩
theorem ex_j : jchk 2 [(0, 1, 7)] 1 0 5 2 = 0 := by kernel_rfl
theorem ex_2 : stAt 2 [(0, 1, 7)] 1 0 5 2 2 = some exS := by kernel_rfl
theorem ex_o : (onwR 2 [(0, 1, 7)] 1 0 5 2 exS).2 = 1 := by kernel_rfl
theorem ex_a : IsAns 2 [(0, 1, 7)] 1 0 5 2 1 2 [0, 7] := .inr ⟨ex_j, 2, exS, ex_2, by rw [ex_o]; decide, by rw [ex_o], rfl, rfl⟩
theorem ex_run (A : Option Addr) (c : Nat) (W : World) (h : Lies W W.heap.size 3 A 1 (ec [(0, 1, 7)])) (hc : 1 ≤ c) :
    Calls Tryz.prog 6 #[.agg #[.int .i64 2, .slice A 1 c], .agg #[.int .i64 1, .int .i64 0, .int .i64 5, .int .i64 2]] W fun e w' => (∃ A1 c1, e = .returned (.agg #[.int .i64 1, .int .i64 2, .slice A1 2 c1]) ∧ Lies w' w'.heap.size 1 A1 2 (vc [0, 7])) ∧ Below W.heap.size W w' :=
  (run_any 2 A 1 c [(0, 1, 7)] 1 0 5 2 W h hc (by unfold maxLen; omega)).mono fun e w' ⟨hb, kd, st, vs, A1, c1, he, hl, _, _, ha⟩ => by
    obtain ⟨rfl, rfl, rfl⟩ := ans_uniq ha ex_a
    exact ⟨⟨A1, c1, he, hl⟩, hb⟩
set_option maxRecDepth 100000 in
theorem works_any (w : World) : Calls Tryz.prog 4 #[] w fun e w' => e = .returned (.bool true) ∧ Below w.heap.size w w' := by
  have CP := Lib.hid (show Calls Tryz.prog 5 #[.string { data := #[103, 114, 97, 112, 104, 32, 50, 10, 101, 100, 103, 101, 32, 48, 32, 49, 32, 55, 10] }] w (PaPost ((2, [(0, 1, 7)]), 0, 0) w) by
    have h := parse_any { data := #[103, 114, 97, 112, 104, 32, 50, 10, 101, 100, 103, 101, 32, 48, 32, 49, 32, 55, 10] } exT w rfl (by decide)
    rw [ex_parse] at h
    exact h)
  go_enter Tryz.func4, Tryz.ntmps4
  go_wp2_with fail
  refine CP.out.mono ?_
  rintro e w1 ⟨hb1, A, c, rfl, hl, hc, -⟩
  have HBA := Lib.hid (below_alloc w1 (.cells #[.int .i64 2, .slice A 1 c] 27))
  have HB1 := Lib.hid (hb1.trans (HBA.out.mono hb1.size))
  have HL1 := Lib.hid (show Lies (w1.alloc (.cells #[.int .i64 2, .slice A 1 c] 27)) (w1.alloc (.cells #[.int .i64 2, .slice A 1 c] 27)).heap.size 3 A 1 (ec [(0, 1, 7)]) from hl.next HBA.out)
  have HC := Lib.hid (show 1 ≤ c from hc)
  clear hb1 hl hc
  go_wp2_with fail
  refine (ex_run A c _ HL1.out HC.out).mono ?_
  rintro e w2 ⟨⟨A1, c1, rfl, hl2⟩, hb2⟩
  have HB2 := Lib.hid (HB1.out.trans (hb2.mono HB1.out.size))
  have HBB := Lib.hid (below_alloc w2 (.cells #[.int .i64 1, .int .i64 2, .slice A1 2 c1] 33))
  have HB3 := Lib.hid (HB2.out.trans (HBB.out.mono HB2.out.size))
  obtain ⟨ad, rfl, hadb, e1⟩ := (hl2.next HBB.out).vs 1 (by decide)
  have e1' : (w2.alloc (.cells #[.int .i64 1, .int .i64 2, .slice (some ad) 2 c1] 33)).cell? ⟨ad.block, ad.off + 1, none⟩ = some (.int .i64 7) := e1
  clear hl2 hb2 e1
  go_wp2_with fail
  go_ret
  exact ⟨rfl, HB3.out⟩
/-- What lies below the state's block from when the run began on. -/
structure Tg (N : Int) (A : Option Addr) (n c : Nat) (es : List Ed) (p s l q : Int) (bj bg ba : Nat) (kd st : Int) (vs : List Int) (VA : Option Addr) (vk : Nat) (W : World) : Prop where
  j : BkT bj #[.int .i64 p, .int .i64 s, .int .i64 l, .int .i64 q] 23 W
  g : BkT bg #[.int .i64 N, .slice A n c] 27 W
  a : BkT ba #[.int .i64 kd, .int .i64 st, .slice VA vs.length vk] 33 W
  e : Lies W W.heap.size 3 A n (ec es)
  v : Lies W W.heap.size 1 VA vs.length (vc vs)
theorem Tg.next {N : Int} {A : Option Addr} {n c : Nat} {es : List Ed} {p s l q : Int} {bj bg ba : Nat} {kd st : Int} {vs : List Int} {VA : Option Addr} {vk : Nat} {W W' : World} (h : Tg N A n c es p s l q bj bg ba kd st vs VA vk W) (hb : Below W.heap.size W W') : Tg N A n c es p s l q bj bg ba kd st vs VA vk W' :=
  ⟨h.j.next hb, h.g.next hb, h.a.next hb, h.e.next hb, h.v.next hb⟩
theorem Rn.next {w3 : World} {bs : Nat} {S : St} {X1 : Option Addr} {x1 : Nat} {X2 : Option Addr} {x2 : Nat} {X3 : Option Addr} {x3 : Nat} {W W' : World} (h : Rn w3 bs S X1 x1 X2 x2 X3 x3 W) (hb : Below W.heap.size W W') : Rn w3 bs S X1 x1 X2 x2 X3 x3 W' :=
  ⟨h.bl.trans (hb.mono h.bl.size), (hb.block _ (lt_of_block h.nb)).trans h.nb, h.st.next hb, h.f1, h.f2, h.f3, h.n1, h.n2, h.n3, h.hb⟩
def TpRel (N : Int) (es : List Ed) (p s l q : Int) (w8 : World) (bs : Nat) (i : Value) (W : World) : Prop :=
  ∃ (k : Nat) (S : St) (X1 : Option Addr) (x1 : Nat) (X2 : Option Addr) (x2 : Nat) (X3 : Option Addr) (x3 : Nat), i = .int .i64 k ∧ Hid (stAt N es p s l q k = some S) ∧ Hid (rightB N es p s l q S = true) ∧ Hid (NN p S) ∧ Hid (Rn w8 bs S X1 x1 X2 x2 X3 x3 W)
theorem nil_lies (w : World) (B : Nat) : Lies w B 1 none ([] : List Int).length (vc []) := Lies.nil
set_option maxRecDepth 20000 in
set_option maxHeartbeats 8000000 in
theorem top_walk (hst : StepsOk) (str : ByteArray) (l0 : List UInt8) (hs : str = ⟨l0.toArray⟩) (hz : str.size ≤ maxLen) (p s l q0 q : Int) (w : World) :
    Calls Tryz.prog 3 #[.string str, .agg #[.int .i64 p, .int .i64 s, .int .i64 l, .int .i64 q0], .int .i64 q] w fun e w' => e = .returned (.bool true) ∧ Below w.heap.size w w' := by
  have HST := Lib.hid hst
  have HB1 := Lib.hid (below_alloc w (.cells #[.int .i64 p, .int .i64 s, .int .i64 l, .int .i64 q0] 23))
  have HJ1 := Lib.hid (show BkT w.heap.size #[.int .i64 p, .int .i64 s, .int .i64 l, .int .i64 q0] 23 (w.alloc (.cells #[.int .i64 p, .int .i64 s, .int .i64 l, .int .i64 q0] 23)) from heap_alloc_new _ _)
  have HZ1 := Lib.hid (show w.heap.size < (w.alloc (.cells #[.int .i64 p, .int .i64 s, .int .i64 l, .int .i64 q0] 23)).heap.size by simp)
  clear hst
  go_enter Tryz.func3, Tryz.ntmps3
  go_upto_region 1 with fail
  generalize w.alloc (.cells #[.int .i64 p, .int .i64 s, .int .i64 l, .int .i64 q0] 23) = w1 at HB1 HJ1 HZ1 ⊢
  have hz' : (str.size : Int) ≤ 9223372036854775807 := by unfold maxLen at hz; omega
  have hbl : str.size = l0.length := by rw [hs]; simp [ByteArray.size]
  by_cases hbig : (10000 : Int) < (str.size : Int)
  · have hbig2 : (10000 : Int) < (l0.length : Int) := by rw [← hbl]; exact hbig
    have hbig3 : ¬ (l0.length : Int) ≤ 10000 := by omega
    clear hbl
    go_wp2_with fail
    refine (works_any _).mono ?_
    rintro e w2 ⟨rfl, hb2⟩
    have HB2 := Lib.hid (HB1.out.trans (hb2.mono HB1.out.size))
    clear hb2
    go_wp2_with fail
    go_ret
    exact ⟨rfl, HB2.out⟩
  · have hbig2 : ¬ (10000 : Int) < (l0.length : Int) := by rw [← hbl]; exact hbig
    clear hbl
    have CP := Lib.hid (parse_any str l0 w1 hs hz)
    have HLN := Lib.hid (parse_len l0)
    have HER := Lib.hid (fun h => err_chk (l := l0) h p s l q)
    obtain ⟨pr, hpr⟩ : ∃ pr, pr = parseL l0 := ⟨_, rfl⟩
    rw [← hpr] at CP HLN HER
    clear hpr hs hz
    obtain ⟨⟨N, es⟩, kl, E⟩ := pr
    simp only at HLN HER
    go_wp2_with fail
    refine CP.out.mono ?_
    rintro e w2 ⟨hb2, A, c, rfl, hl, hnc, hfr⟩
    simp only at hl hnc
    obtain ⟨n, hn⟩ : ∃ n, n = es.length := ⟨_, rfl⟩
    have hnm : n ≤ maxLen := by rw [hn]; have := HLN.out; unfold maxLen; omega
    rw [← hn] at hl hnc
    simp only
    rw [← hn]
    clear hn
    have HNC := Lib.hid hnc
    have HNM := Lib.hid hnm
    have HB2 := Lib.hid (HB1.out.trans (hb2.mono HB1.out.size))
    have HJ2 := Lib.hid (HJ1.out.next hb2)
    have HFR := Lib.hid (show Fr w1.heap.size A from hfr)
    have HL2 := Lib.hid hl
    clear hb2 hfr hl hnc hnm
    have HBG := Lib.hid (below_alloc w2 (.cells #[.int .i64 N, .slice A n c] 27))
    have HG3 := Lib.hid (show BkT w2.heap.size #[.int .i64 N, .slice A n c] 27 (w2.alloc (.cells #[.int .i64 N, .slice A n c] 27)) from heap_alloc_new _ _)
    have HJ3 := Lib.hid (HJ2.out.next HBG.out)
    have HL3 := Lib.hid (HL2.out.next HBG.out)
    have HB3 := Lib.hid (HB2.out.trans (HBG.out.mono HB2.out.size))
    have hjg : w.heap.size ≠ w2.heap.size := by have := HB2.out.size; have := HJ2.out; have := lt_of_block this; omega
    have g3 := HJ3.out.cell 3
    have f3 := unfrozen HJ3.out 3
    go_upto_region 4 with fail
    obtain ⟨bg, hbg⟩ : ∃ b, b = w2.heap.size := ⟨_, rfl⟩
    rw [← hbg] at HG3 hjg ⊢
    clear hbg
    generalize w2.alloc (.cells #[.int .i64 N, .slice A n c] 27) = w3 at HBG HG3 HJ3 HL3 HB3 g3 f3 ⊢
    have HJ4 := Lib.hid (show BkT w.heap.size #[.int .i64 p, .int .i64 s, .int .i64 l, .int .i64 q] 23 (w3.setCell ⟨w.heap.size, 3, none⟩ (.int .i64 q)) from set_heap HJ3.out _)
    have HG4 := Lib.hid (show BkT bg #[.int .i64 N, .slice A n c] 27 (w3.setCell ⟨w.heap.size, 3, none⟩ (.int .i64 q)) from (Below.heap_setCell w3 ⟨w.heap.size, 3, none⟩ _ bg (fun h => hjg h.symm)).trans HG3.out)
    have HL4 := Lib.hid (show Lies (w3.setCell ⟨w.heap.size, 3, none⟩ (.int .i64 q)) (w3.setCell ⟨w.heap.size, 3, none⟩ (.int .i64 q)).heap.size 3 A n (ec es) from (HL3.out.set HFR.out HZ1.out _).more (by simp [World.setCell]))
    have HB4 := Lib.hid (show Below w.heap.size w (w3.setCell ⟨w.heap.size, 3, none⟩ (.int .i64 q)) from HB3.out.setCell (p := ⟨w.heap.size, 3, none⟩) (Nat.le_refl _) _)
    go_upto_region 5 with fail
    generalize w3.setCell ⟨w.heap.size, 3, none⟩ (.int .i64 q) = w4 at HJ4 HG4 HL4 HB4 ⊢
    clear g3 f3 hjg
    have g0 := HG4.out.cell 0
    have g1 := HG4.out.cell 1
    have j0 := HJ4.out.cell 0
    have j1 := HJ4.out.cell 1
    have j2 := HJ4.out.cell 2
    have j3 := HJ4.out.cell 3
    go_wp2_with fail
    refine (run_any N A n c es p s l q w4 HL4.out HNC.out HNM.out).mono ?_
    rintro e w5 ⟨hb5, kd, st, vs, VA, vk, rfl, hv, hvk, hvn, ha⟩
    have HBA := Lib.hid (below_alloc w5 (.cells #[.int .i64 kd, .int .i64 st, .slice VA vs.length vk] 33))
    have HT6 := Lib.hid (show Tg N A n c es p s l q w.heap.size bg w5.heap.size kd st vs VA vk (w5.alloc (.cells #[.int .i64 kd, .int .i64 st, .slice VA vs.length vk] 33)) from ⟨(HJ4.out.next hb5).next HBA.out, (HG4.out.next hb5).next HBA.out, heap_alloc_new _ _, (HL4.out.next hb5).next HBA.out, hv.next HBA.out⟩)
    have HB6 := Lib.hid ((HB4.out.trans (hb5.mono HB4.out.size)).trans (HBA.out.mono (HB4.out.trans (hb5.mono HB4.out.size)).size))
    have HA := Lib.hid ha
    have HVN := Lib.hid hvn
    clear hb5 hv hvk hvn ha g0 g1 j0 j1 j2 j3
    go_upto_region 6 with fail
    generalize w5.alloc (.cells #[.int .i64 kd, .int .i64 st, .slice VA vs.length vk] 33) = w6 at HT6 HB6 ⊢
    obtain ⟨ba, hba⟩ : ∃ b, b = w5.heap.size := ⟨_, rfl⟩
    rw [← hba] at HT6 ⊢
    clear hba HBA HJ4 HG4 HL4 HB4 HG3 HJ3 HL3 HB3 HBG HL2 HJ2 HB2 CP HFR HJ1 HZ1
    by_cases hE : E = 0
    · subst hE
      have g0 := HT6.out.g.cell 0
      have g1 := HT6.out.g.cell 1
      have j0 := HT6.out.j.cell 0
      have j1 := HT6.out.j.cell 1
      have j2 := HT6.out.j.cell 2
      have j3 := HT6.out.j.cell 3
      go_wp2_with fail
      refine (rjcheck_any N A n c es p s l q w6 HT6.out.e HNC.out HNM.out).mono ?_
      rintro e w7 ⟨rfl, hb7⟩
      have HT7 := Lib.hid (HT6.out.next hb7)
      have HB7 := Lib.hid (HB6.out.trans (hb7.mono HB6.out.size))
      clear hb7 g0 g1 j0 j1 j2 j3
      by_cases hj : jchk N es p s l q = 0
      · rw [hj]
        have HJC := Lib.hid hj
        have HBEG := Lib.hid (show beginR N es p s l q = (beginS N p s, 0) by unfold beginR; rw [if_pos hj])
        have HBJ2 := Lib.hid (badJ_not (jchk_zero hj).2)
        clear hj
        have g0 := HT7.out.g.cell 0
        have g1 := HT7.out.g.cell 1
        have j0 := HT7.out.j.cell 0
        have j1 := HT7.out.j.cell 1
        have j2 := HT7.out.j.cell 2
        have j3 := HT7.out.j.cell 3
        go_wp2_with fail
        refine (begin_any N A n c es p s l q w7 HT7.out.e HNC.out HNM.out).mono ?_
        rw [HBEG.out]
        rintro e w8 ⟨hb8, X1, x1, X2, x2, X3, x3, rfl, hX, f1, f2, f3⟩
        have HRN := Lib.hid (Rn.begin hb8 hX f1 f2 f3)
        clear hb8 hX f1 f2 f3 g0 g1 j0 j1 j2 j3
        have HTG := Lib.hid HT7.out
        have HBB := Lib.hid HB7.out
        generalize hS0 : beginS N p s = S0 at *
        have HS0 := Lib.hid hS0
        clear hS0
        simp only at HRN ⊢
        go_upto_region 9 with fail
        generalize w8.alloc (.cells #[.int .i64 S0.step, .slice X1 S0.vals.length x1, .slice X2 S0.rest.length x2, .slice X3 S0.inn.length x3] 39) = w9 at HRN ⊢
        obtain ⟨bs, hbs⟩ : ∃ b, b = w8.heap.size := ⟨_, rfl⟩
        rw [← hbs] at HRN ⊢
        clear hbs
        go_wp2_with fail
        go_loopw [13] (fun i W => TpRel N es p s l q w7 bs i W) (fun i W => 41 - (intOf i).toNat)
        case atStart => exact ⟨0, S0, X1, x1, X2, x2, X3, x3, rfl, Lib.hid (by rw [← HS0.out]; rfl), Lib.hid (by rw [← HS0.out]; exact begin_right HJC.out), Lib.hid (by rw [← HS0.out]; exact begin_NN N p s), HRN⟩
        case round =>
          clear HRN
          obtain ⟨k, S, X1, x1, X2, x2, X3, x3, rfl, HK, HR, HNN, R9⟩ := hrel
          have hstep := stAt_step k HK.out
          have hkl := stAt_le (by have := HBJ2.out; omega) k HK.out
          have hl40 : l ≤ 40 := HBJ2.out.2.2.2.1
          have hk40 : (k : Int) ≤ 40 := by omega
          have hk41 : k ≤ 40 := by omega
          have T9 := Lib.hid (HTG.out.next R9.out.bl)
          have b0 := cell_of_row _ bs 0 _ 39 (0, 0) R9.out.nb
          have b1 := cell_of_row _ bs 1 _ 39 (0, 0) R9.out.nb
          have b2 := cell_of_row _ bs 2 _ 39 (0, 0) R9.out.nb
          have b3 := cell_of_row _ bs 3 _ 39 (0, 0) R9.out.nb
          have HSP := Lib.hid hstep
          clear hstep
          go_wp2_with fail
          refine (rquiet_any S X1 x1 X2 x2 X3 x3 _ R9.out.st).mono ?_
          rintro e w10 ⟨rfl, hb10⟩
          have R10 := Lib.hid (R9.out.next hb10)
          clear hb10 b0 b1 b2 b3 R9 T9
          have T10 := Lib.hid (HTG.out.next R10.out.bl)
          have b0 := cell_of_row _ bs 0 _ 39 (0, 0) R10.out.nb
          have b1 := cell_of_row _ bs 1 _ 39 (0, 0) R10.out.nb
          have b2 := cell_of_row _ bs 2 _ 39 (0, 0) R10.out.nb
          have b3 := cell_of_row _ bs 3 _ 39 (0, 0) R10.out.nb
          have j2 := T10.out.j.cell 2
          cases hq : quietB S with
          | true =>
            obtain ⟨h1, h2, h3⟩ := end_ans HA.out HJC.out HK.out (.inl hq)
            have h1' : kd = 1 := h1.trans (by unfold kindI; rw [if_pos hq])
            have HQ := Lib.hid hq
            clear h1 hq
            subst h1' h2 h3
            go_wp2_with fail
            refine (rquiet_any S X1 x1 X2 x2 X3 x3 _ R10.out.st).mono ?_
            rintro e w11 ⟨rfl, hb11⟩
            have R11 := Lib.hid (R10.out.next hb11)
            clear hb11 b0 b1 b2 b3 j2 T10
            rw [HQ.out]
            have T := Lib.hid (HTG.out.next R11.out.bl)
            have BB := Lib.hid (HBB.out.trans (R11.out.bl.mono HBB.out.size))
            have a0 := T.out.a.cell 0
            have a1 := T.out.a.cell 1
            have a2 := T.out.a.cell 2
            have b0 := cell_of_row _ bs 0 _ 39 (0, 0) R11.out.nb
            have b1 := cell_of_row _ bs 1 _ 39 (0, 0) R11.out.nb
            go_wp2_with fail
            refine (sameA_yes 1 S.step S.vals VA vk X1 x1 _ T.out.v R11.out.st.v HVN.out).mono ?_
            rintro e w12 ⟨rfl, hb12⟩
            have BC := Lib.hid (BB.out.trans (hb12.mono BB.out.size))
            clear hb12 a0 a1 a2 b0 b1
            go_wp2_with fail
            refine (works_any _).mono ?_
            rintro e wk ⟨rfl, hbk⟩
            have BK := Lib.hid (BC.out.trans (hbk.mono BC.out.size))
            clear hbk
            go_wp2_with fail
            go_ret
            exact ⟨rfl, BK.out⟩
          | false =>
            have HQ := Lib.hid hq
            by_cases hl : S.step = l
            · obtain ⟨h1, h2, h3⟩ := end_ans HA.out HJC.out HK.out (.inr hl)
              have h1' : kd = 3 := h1.trans (by unfold kindI; rw [if_neg (by rw [hq]; decide)])
              have hle : l ≤ S.step := by omega
              clear h1 hq hl
              subst h1' h2 h3
              go_wp2_with fail
              refine (rquiet_any S X1 x1 X2 x2 X3 x3 _ R10.out.st).mono ?_
              rintro e w11 ⟨rfl, hb11⟩
              have R11 := Lib.hid (R10.out.next hb11)
              clear hb11 b0 b1 b2 b3 j2 T10 hle
              rw [HQ.out]
              have T := Lib.hid (HTG.out.next R11.out.bl)
              have BB := Lib.hid (HBB.out.trans (R11.out.bl.mono HBB.out.size))
              have a0 := T.out.a.cell 0
              have a1 := T.out.a.cell 1
              have a2 := T.out.a.cell 2
              have b0 := cell_of_row _ bs 0 _ 39 (0, 0) R11.out.nb
              have b1 := cell_of_row _ bs 1 _ 39 (0, 0) R11.out.nb
              go_wp2_with fail
              refine (sameA_yes 3 S.step S.vals VA vk X1 x1 _ T.out.v R11.out.st.v HVN.out).mono ?_
              rintro e w12 ⟨rfl, hb12⟩
              have BC := Lib.hid (BB.out.trans (hb12.mono BB.out.size))
              clear hb12 a0 a1 a2 b0 b1
              go_wp2_with fail
              refine (works_any _).mono ?_
              rintro e wk ⟨rfl, hbk⟩
              have BK := Lib.hid (BC.out.trans (hbk.mono BC.out.size))
              clear hbk
              go_wp2_with fail
              go_ret
              exact ⟨rfl, BK.out⟩
            · have hle : ¬ l ≤ S.step := by have := HSP.out; omega
              have h40 : ¬ S.step = 40 := by have := HSP.out; omega
              have HOV := Lib.hid (fun h8 => over_ans HA.out HJC.out HK.out hq hl h8)
              have HNX := Lib.hid (fun h0 => next_at HK.out hq hl h0)
              have HSN := Lib.hid (fun h0 => step_NN (N := N) (es := es) (s := s) (l := l) (q := q) R10.out.st.ok HNN.out h0)
              have g0 := T10.out.g.cell 0
              have g1 := T10.out.g.cell 1
              have j0 := T10.out.j.cell 0
              have j1 := T10.out.j.cell 1
              have j3 := T10.out.j.cell 3
              have CD := Lib.hid (HST.out N A n c es p s l q S X1 x1 X2 x2 X3 x3 w10 T10.out.e HNC.out HNM.out R10.out.st HR.out h40 HNN.out)
              clear hq hl h40
              go_wp2_with fail
              refine CD.out.mono ?_
              rintro e w11 ⟨hb11, hc⟩
              obtain ⟨sr, hsr⟩ : ∃ sr, sr = stepR N es p s l q S := ⟨_, rfl⟩
              rw [← hsr] at hc HOV HNX HSN
              clear hsr CD g0 g1 j0 j1 j2 j3 b0 b1 b2 b3 hle
              rcases hc with ⟨h0, hrt, Y1, y1, Y2, y2, Y3, y3, rfl, hY, f1, f2, f3⟩ | ⟨h8, rfl⟩
              · have RG := Lib.hid (R10.out.go (.cells #[.int .i64 sr.1.step, .slice Y1 sr.1.vals.length y1, .slice Y2 sr.1.rest.length y2, .slice Y3 sr.1.inn.length y3] 39) hb11 hY f1 f2 f3)
                have HN2 := Lib.hid (HNX.out h0)
                have HS2 := Lib.hid (HSN.out h0)
                have HRT := Lib.hid hrt
                have R11 := Lib.hid ((R10.out.next hb11).next (below_alloc w11 (.cells #[.int .i64 sr.1.step, .slice Y1 sr.1.vals.length y1, .slice Y2 sr.1.rest.length y2, .slice Y3 sr.1.inn.length y3] 39)))
                have HZT := Lib.hid (show BkT w11.heap.size #[.int .i64 sr.1.step, .slice Y1 sr.1.vals.length y1, .slice Y2 sr.1.rest.length y2, .slice Y3 sr.1.inn.length y3] 39 (w11.alloc (.cells #[.int .i64 sr.1.step, .slice Y1 sr.1.vals.length y1, .slice Y2 sr.1.rest.length y2, .slice Y3 sr.1.inn.length y3] 39)) from heap_alloc_new _ _)
                have t0 := HZT.out.cell 0
                have t1 := HZT.out.cell 1
                have t2 := HZT.out.cell 2
                have t3 := HZT.out.cell 3
                have b0 := cell_of_row _ bs 0 _ 39 (0, 0) R11.out.nb
                have b1 := cell_of_row _ bs 1 _ 39 (0, 0) R11.out.nb
                have b2 := cell_of_row _ bs 2 _ 39 (0, 0) R11.out.nb
                have b3 := cell_of_row _ bs 3 _ 39 (0, 0) R11.out.nb
                have u0 := unfrozen R11.out.nb 0
                have u1 := unfrozen R11.out.nb 1
                have u2 := unfrozen R11.out.nb 2
                have u3 := unfrozen R11.out.nb 3
                clear hb11 hrt hY f1 f2 f3 h0 HNX HSN HOV
                go_upto_region 20 with fail
                generalize w11.alloc (.cells #[.int .i64 sr.1.step, .slice Y1 sr.1.vals.length y1, .slice Y2 sr.1.rest.length y2, .slice Y3 sr.1.inn.length y3] 39) = w12 at *
                generalize w11.heap.size = bt at *
                go_wp2_with fail
                go_roundw
                case rel => exact ⟨k + 1, sr.1, Y1, y1, Y2, y2, Y3, y3, by go_num, HN2, HRT, HS2, RG⟩
                case measure => simp [intOf]; omega
              · obtain ⟨h1, h2, h3⟩ := HOV.out h8
                clear h8 HNX HSN HOV
                subst h1 h2 h3
                have R11 := Lib.hid ((R10.out.next hb11).next (below_alloc w11 (.cells #[.int .i64 0, .slice none 0 0, .slice none 0 0, .slice none 0 0] 39)))
                clear hb11
                have T := Lib.hid (HTG.out.next R11.out.bl)
                have BB := Lib.hid (HBB.out.trans (R11.out.bl.mono HBB.out.size))
                have a0 := T.out.a.cell 0
                have a1 := T.out.a.cell 1
                have a2 := T.out.a.cell 2
                have b0 := cell_of_row _ bs 0 _ 39 (0, 0) R11.out.nb
                go_upto_region 20 with fail
                generalize w11.alloc (.cells #[.int .i64 0, .slice none 0 0, .slice none 0 0, .slice none 0 0] 39) = w12 at *
                go_wp2_with fail
                refine (sameA_yes 2 S.step [] VA vk none 0 _ T.out.v (nil_lies _ _) (by decide)).mono ?_
                rintro e w13 ⟨rfl, hb13⟩
                have BC := Lib.hid (BB.out.trans (hb13.mono BB.out.size))
                clear hb13 a0 a1 a2 b0
                go_wp2_with fail
                refine (works_any _).mono ?_
                rintro e wk ⟨rfl, hbk⟩
                have BK := Lib.hid (BC.out.trans (hbk.mono BC.out.size))
                clear hbk
                go_wp2_with fail
                go_ret
                exact ⟨rfl, BK.out⟩
      · have h4 : kd = 4 := by
          rcases HA.out with ⟨_, h4, _⟩ | ⟨hj', _⟩
          · exact h4
          · exact absurd hj' hj
        subst h4
        have hj' : (jchk N es p s l q != 0) = true := by simpa using hj
        clear hj
        generalize jchk N es p s l q = jc at *
        have a0 := HT7.out.a.cell 0
        go_wp2_with fail
        refine (works_any _).mono ?_
        rintro e wk ⟨rfl, hbk⟩
        have BK := Lib.hid (HB7.out.trans (hbk.mono HB7.out.size))
        clear hbk
        go_wp2_with fail
        go_ret
        exact ⟨rfl, BK.out⟩
    · have h4 : kd = 4 := by
        rcases HA.out with ⟨_, h4, _⟩ | ⟨hj', _⟩
        · exact h4
        · exact absurd hj' (HER.out hE)
      subst h4
      have hE' : (E != 0) = true := by simpa using hE
      clear hE
      have a0 := HT6.out.a.cell 0
      go_wp2_with fail
      refine (works_any _).mono ?_
      rintro e wk ⟨rfl, hbk⟩
      have BK := Lib.hid (HB6.out.trans (hbk.mono HB6.out.size))
      clear hbk
      go_wp2_with fail
      go_ret
      exact ⟨rfl, BK.out⟩
end Go.Proofs.YtpgdddjjjfkneaaGreatDoor
