/-
  The document's examples ('knows'). No condition.
-/
import Derived.Test.YtgfcgeiifinmmaaPtK
import Derived.BigQuiet
import Derived.Deep.RegionHeld3
namespace Go.Proofs.Ytgfcgeiifinmmaa
open Go.ChangeShapes Go.WideShapes Go.ChangeAt Go.RowKit
set_option linter.unusedVariables false

def exS : St := ⟨1, [10, 11, 12, 13, 14], [false, false, false, false, false], [(1, 5), (2, 7)]⟩
def exA : St := ⟨1, [10, 12, 14], [false, false, false], [(2, 7)]⟩
def exB : St := ⟨1, [11, 13], [false, false], [(1, 5)]⟩
theorem ex_split : splitR 5 [] 2 0 3 2 exS = ([mkP 0 exA, mkP 1 exB], 0) := by rfl
theorem ex_join : joinR 5 [] 2 0 3 2 [mkP 0 exA, mkP 1 exB] = (exS, 0) := by rfl
theorem ex_right : rightP 5 [] 2 0 3 2 (mkP 1 exB) = true := by rfl
theorem ex_home : homeI 2 3 = 1 := by rfl
theorem ex_count : cntI 5 [] 2 0 3 2 0 = 3 := by rfl
theorem ex_ok : Ok exS := by
  refine ⟨⟨by decide, by decide⟩, fun x hx => ?_, fun x hx => ?_, by decide, by decide, by decide⟩
  · simp [exS] at hx; rcases hx with rfl | rfl | rfl | rfl | rfl <;> exact ⟨by decide, by decide⟩
  · simp [exS] at hx; rcases hx with rfl | rfl <;> exact ⟨by decide, by decide⟩
theorem ex_two {ls : List Pe} (h : ls.map Pe.x = [mkP 0 exA, mkP 1 exB]) : ∃ a b, ls = [a, b] ∧ a.P = 0 ∧ a.S = exA ∧ b.P = 1 ∧ b.S = exB := by
  have hl : ls.length = 2 := by have := congrArg List.length h; simpa using this
  match ls, hl, h with
  | [a, b], _, h =>
    refine ⟨a, b, rfl, ?_⟩
    simp only [List.map_cons, List.map_nil, List.cons.injEq, and_true] at h
    obtain ⟨h1, h2⟩ := h
    have key : ∀ (e : Pe) (P : Int) (S : St), e.x = mkP P S → e.P = P ∧ e.S = S := by
      intro e P S he
      unfold Pe.x mkP at he
      injection he with e1 e2 e3 e4 e5
      refine ⟨e1, ?_⟩
      obtain ⟨_, ⟨_, _, _, _⟩, _, _, _, _, _, _⟩ := e
      obtain ⟨_, _, _, _⟩ := S
      simp only at e2 e3 e4 e5
      rw [e2, e3, e4, e5]
    exact ⟨(key a 0 exA h1).1, (key a 0 exA h1).2, (key b 1 exB h2).1, (key b 1 exB h2).2⟩
/-- The examples' graph, job and state stand in memory. -/
structure Kx (w W : World) : Prop where
  z : w.heap.size + 6 ≤ W.heap.size
  g0 : W.cell? ⟨w.heap.size, 0, none⟩ = some (.int .i64 5)
  g1 : W.cell? ⟨w.heap.size, 1, none⟩ = some (.slice none 0 0)
  j0 : W.cell? ⟨w.heap.size + 1, 0, none⟩ = some (.int .i64 2)
  j1 : W.cell? ⟨w.heap.size + 1, 1, none⟩ = some (.int .i64 0)
  j2 : W.cell? ⟨w.heap.size + 1, 2, none⟩ = some (.int .i64 3)
  j3 : W.cell? ⟨w.heap.size + 1, 3, none⟩ = some (.int .i64 2)
  s0 : W.cell? ⟨w.heap.size + 1 + 1 + 1 + 1 + 1, 0, none⟩ = some (.int .i64 1)
  s1 : W.cell? ⟨w.heap.size + 1 + 1 + 1 + 1 + 1, 1, none⟩ = some (.slice (some ⟨w.heap.size + 1 + 1, 0, none⟩) 5 5)
  s2 : W.cell? ⟨w.heap.size + 1 + 1 + 1 + 1 + 1, 2, none⟩ = some (.slice (some ⟨w.heap.size + 1 + 1 + 1, 0, none⟩) 5 5)
  s3 : W.cell? ⟨w.heap.size + 1 + 1 + 1 + 1 + 1, 3, none⟩ = some (.slice (some ⟨w.heap.size + 1 + 1 + 1 + 1, 0, none⟩) 2 2)
  S : StL W W.heap.size exS (some ⟨w.heap.size + 1 + 1, 0, none⟩) 5 (some ⟨w.heap.size + 1 + 1 + 1, 0, none⟩) 5 (some ⟨w.heap.size + 1 + 1 + 1 + 1, 0, none⟩) 2
  bl : Below w.heap.size w W
theorem Kx.next {w W W' : World} (h : Kx w W) (hb : Below W.heap.size W W') : Kx w W' :=
  have k : ∀ b o, b < w.heap.size + 6 → W'.cell? ⟨b, o, none⟩ = W.cell? ⟨b, o, none⟩ := fun b o hl => hb.cell (p := ⟨b, o, none⟩) (Nat.lt_of_lt_of_le hl h.z)
  ⟨Nat.le_trans h.z hb.size, (k _ _ (by omega)).trans h.g0, (k _ _ (by omega)).trans h.g1, (k _ _ (by omega)).trans h.j0, (k _ _ (by omega)).trans h.j1, (k _ _ (by omega)).trans h.j2, (k _ _ (by omega)).trans h.j3, (k _ _ (by omega)).trans h.s0, (k _ _ (by omega)).trans h.s1, (k _ _ (by omega)).trans h.s2, (k _ _ (by omega)).trans h.s3, h.S.next hb, h.bl.trans (hb.mono (by have := h.z; omega))⟩
theorem Kx.init (w : World) : Kx w ((((((w.alloc (.cells #[.int .i64 5, .slice none 0 0] 24)).alloc (.cells #[.int .i64 2, .int .i64 0, .int .i64 3, .int .i64 2] 26)).alloc (.cells #[.int .i64 10, .int .i64 11, .int .i64 12, .int .i64 13, .int .i64 14] 2)).alloc (.cells #[.bool false, .bool false, .bool false, .bool false, .bool false] 4)).alloc (.cells #[.int .i64 1, .int .i64 5, .int .i64 2, .int .i64 7] 61)).alloc (.cells #[.int .i64 1, .slice (some ⟨w.heap.size + 1 + 1, 0, none⟩) 5 5, .slice (some ⟨w.heap.size + 1 + 1 + 1, 0, none⟩) 5 5, .slice (some ⟨w.heap.size + 1 + 1 + 1 + 1, 0, none⟩) 2 2] 40)) := by
  refine ⟨by simp, by simp [go_sem], by simp [go_sem], by simp [go_sem], by simp [go_sem], by simp [go_sem], by simp [go_sem], by simp [go_sem], by simp [go_sem], by simp [go_sem], by simp [go_sem], ?_, ?_⟩
  · obtain ⟨w2, h2⟩ : ∃ w2, w2 = (w.alloc (.cells #[.int .i64 5, .slice none 0 0] 24)).alloc (.cells #[.int .i64 2, .int .i64 0, .int .i64 3, .int .i64 2] 26) := ⟨_, rfl⟩
    have e2 : w2.heap.size = w.heap.size + 1 + 1 := by rw [h2]; simp
    rw [← h2, ← e2]
    have l1 := lies_cells w2 (vc exS.vals) 2 5 1 rfl
    have l1 : Lies (w2.alloc (.cells #[.int .i64 10, .int .i64 11, .int .i64 12, .int .i64 13, .int .i64 14] 2)) (w2.alloc (.cells #[.int .i64 10, .int .i64 11, .int .i64 12, .int .i64 13, .int .i64 14] 2)).heap.size 1 (some ⟨w2.heap.size, 0, none⟩) 5 (vc exS.vals) := l1.more (by simp)
    generalize h3 : w2.alloc (.cells #[.int .i64 10, .int .i64 11, .int .i64 12, .int .i64 13, .int .i64 14] 2) = w3 at l1 ⊢
    have e3 : w3.heap.size = w2.heap.size + 1 := by rw [← h3]; simp
    have l2 := lies_cells w3 (rc exS.rest) 4 5 1 rfl
    have l2 : Lies (w3.alloc (.cells #[.bool false, .bool false, .bool false, .bool false, .bool false] 4)) (w3.alloc (.cells #[.bool false, .bool false, .bool false, .bool false, .bool false] 4)).heap.size 1 (some ⟨w3.heap.size, 0, none⟩) 5 (rc exS.rest) := l2.more (by simp)
    have l1 := l1.next (below_alloc w3 (.cells #[.bool false, .bool false, .bool false, .bool false, .bool false] 4))
    generalize h4 : w3.alloc (.cells #[.bool false, .bool false, .bool false, .bool false, .bool false] 4) = w4 at l1 l2 ⊢
    have e4 : w4.heap.size = w3.heap.size + 1 := by rw [← h4]; simp
    have l3 := lies_cells w4 (mc exS.inn) 61 2 2 rfl
    have l3 : Lies (w4.alloc (.cells #[.int .i64 1, .int .i64 5, .int .i64 2, .int .i64 7] 61)) (w4.alloc (.cells #[.int .i64 1, .int .i64 5, .int .i64 2, .int .i64 7] 61)).heap.size 2 (some ⟨w4.heap.size, 0, none⟩) 2 (mc exS.inn) := l3.more (by simp)
    have l1 := l1.next (below_alloc w4 (.cells #[.int .i64 1, .int .i64 5, .int .i64 2, .int .i64 7] 61))
    have l2 := l2.next (below_alloc w4 (.cells #[.int .i64 1, .int .i64 5, .int .i64 2, .int .i64 7] 61))
    generalize h5 : w4.alloc (.cells #[.int .i64 1, .int .i64 5, .int .i64 2, .int .i64 7] 61) = w5 at l1 l2 l3 ⊢
    rw [e4, e3] at l3
    rw [e3] at l2
    exact ⟨l1.next (below_alloc _ _), l2.next (below_alloc _ _), l3.next (below_alloc _ _), by decide, by decide, by decide, ex_ok⟩
  · exact ((((((Below.refl _ _).alloc (Nat.le_refl _) _).alloc (by simp) _).alloc (by simp; omega) _).alloc (by simp; omega) _).alloc (by simp; omega) _).alloc (by simp; omega) _
theorem join_ex (D : Option Addr) (d : Nat) (ls : List Pe) (w : World) (hD : Pls w w.heap.size D d ls) (hx : ls.map Pe.x = [mkP 0 exA, mkP 1 exB]) :
    Calls Try.prog 22 #[.agg #[.int .i64 5, .slice none 0 0], .agg #[.int .i64 2, .int .i64 0, .int .i64 3, .int .i64 2], .slice D ls.length d] w fun e w' => (∃ T1 t1 T2 t2 T3 t3, e = .returned (.tuple #[.agg #[.int .i64 1, .slice T1 5 t1, .slice T2 5 t2, .slice T3 2 t3], .int .i64 0]) ∧ StL w' w'.heap.size exS T1 t1 T2 t2 T3 t3) ∧ Below w.heap.size w w' := by
  refine (join_any 5 none 0 0 [] 2 0 3 2 D d ls w Lies.nil (Nat.le_refl _) (Nat.zero_le _) hD).mono ?_
  rw [hx, ex_join]
  rintro e w2 ⟨hb2, T1, t1, T2, t2, T3, t3, rfl, hT, f1, f2, f3⟩
  exact ⟨⟨T1, t1, T2, t2, T3, t3, rfl, hT⟩, hb2⟩
set_option maxRecDepth 20000 in
set_option maxHeartbeats 4000000 in
theorem knows_any (w : World) : Calls Try.prog 10 #[] w fun e w' => e = .returned (.bool true) ∧ Below w.heap.size w w' := by
  have mixed : Try.prog.follows .mixedOrders = true := by kernel_rfl
  have HK := Lib.hid (Kx.init w)
  have hmk : ∀ W : World, (Instr.makeSlice 33 (.int .i64 5) (.int .i64 5)).run Try.prog W = .ok (.slice (some ⟨W.heap.size, 0, none⟩) 5 5) (W.alloc (.cells #[.bool false, .bool false, .bool false, .bool false, .bool false] 4)) := fun W => by
    have h := run_make_row' (P := Try.prog) 33 4 (.bool false) 1 Try.underlying33 (by kernel_rfl) rfl .i64 .i64 5 (by omega) (by omega) W
    rw [show madeCells #[Value.bool false] 5 = #[.bool false, .bool false, .bool false, .bool false, .bool false] by apply Array.ext'; rw [toList_madeCells_one]; rfl] at h
    exact h
  go_enter Try.func10, Try.ntmps10
  go_upto_region 4 with fail
  generalize ((((((w.alloc (.cells #[.int .i64 5, .slice none 0 0] 24)).alloc (.cells #[.int .i64 2, .int .i64 0, .int .i64 3, .int .i64 2] 26)).alloc (.cells #[.int .i64 10, .int .i64 11, .int .i64 12, .int .i64 13, .int .i64 14] 2)).alloc (.cells #[.bool false, .bool false, .bool false, .bool false, .bool false] 4)).alloc (.cells #[.int .i64 1, .int .i64 5, .int .i64 2, .int .i64 7] 61)).alloc (.cells #[.int .i64 1, .slice (some ⟨w.heap.size + 1 + 1, 0, none⟩) 5 5, .slice (some ⟨w.heap.size + 1 + 1 + 1, 0, none⟩) 5 5, .slice (some ⟨w.heap.size + 1 + 1 + 1 + 1, 0, none⟩) 2 2] 40)) = W0 at HK ⊢
  clear hmk
  obtain ⟨z, g0, g1, j0, j1, j2, j3, s0, s1, s2, s3, hS, bl⟩ := id HK.out
  clear z bl hS
  go_wp2_with fail
  refine (split_any 5 none 0 0 [] 2 0 3 2 exS _ 5 _ 5 _ 2 _ Lies.nil (Nat.le_refl _) (Nat.zero_le _) HK.out.S).mono ?_
  rw [ex_split]
  rintro e w1 ⟨hb1, A, c, ls, rfl, hP, hx⟩
  obtain ⟨x, y, rfl, p0, q0, p1, q1⟩ := ex_two hx
  have HK1 := Lib.hid (HK.out.next hb1)
  have HP1 := Lib.hid hP
  have HX := Lib.hid hx
  obtain ⟨ad, rfl, k1, k2, k3, x2, k4, k5⟩ := hP.L.pe 0 (by simp)
  obtain ⟨ad', ea, k6, k7, k8, k9, k10, y4⟩ := hP.L.pe 1 (by simp)
  injection ea with ea
  subst ea
  have x2 : w1.cell? ⟨ad.block, ad.off + 2, none⟩ = some (.slice x.A1 x.S.vals.length x.c1) := x2
  have y4 : w1.cell? ⟨ad.block, ad.off + 5 + 4, none⟩ = some (.slice y.A3 y.S.inn.length y.c3) := y4
  rw [q0] at x2
  rw [q1] at y4
  have x2 : w1.cell? ⟨ad.block, ad.off + 2, none⟩ = some (.slice x.A1 3 x.c1) := x2
  have y4 : w1.cell? ⟨ad.block, ad.off + 5 + 4, none⟩ = some (.slice y.A3 1 y.c3) := y4
  have y4' : w1.cell? ⟨ad.block, ad.off + 9, none⟩ = some (.slice y.A3 1 y.c3) := y4
  have hv0 : StL w1 w1.heap.size exA x.A1 x.c1 x.A2 x.c2 x.A3 x.c3 := by rw [← q0]; exact hP.at 0 (by simp)
  have hv1 : StL w1 w1.heap.size exB y.A1 y.c1 y.A2 y.c2 y.A3 y.c3 := by rw [← q1]; exact hP.at 1 (by simp)
  obtain ⟨a1, ea1, k11, v2⟩ := hv0.v.vs 2 (by decide)
  obtain ⟨b3, eb3, k12, k13, m1⟩ := hv1.m.ms 0 (by decide)
  have v2 : w1.cell? ⟨a1.block, a1.off + 2, none⟩ = some (.int .i64 14) := v2
  have m1 : w1.cell? ⟨b3.block, b3.off + 1, none⟩ = some (.int .i64 5) := m1
  have y0 : w1.cell? ⟨ad.block, ad.off + 5, none⟩ = some (.int .i64 1) := by have : w1.cell? ⟨ad.block, ad.off + 5, none⟩ = some (.int .i64 y.P) := k7; rw [p1] at this; exact this
  have y1 : w1.cell? ⟨ad.block, ad.off + 5 + 1, none⟩ = some (.int .i64 1) := by have : w1.cell? ⟨ad.block, ad.off + 5 + 1, none⟩ = some (.int .i64 y.S.step) := k8; rw [q1] at this; exact this
  have y2 : w1.cell? ⟨ad.block, ad.off + 5 + 2, none⟩ = some (.slice y.A1 2 y.c1) := by have : w1.cell? ⟨ad.block, ad.off + 5 + 2, none⟩ = some (.slice y.A1 y.S.vals.length y.c1) := k9; rw [q1] at this; exact this
  have y3 : w1.cell? ⟨ad.block, ad.off + 5 + 3, none⟩ = some (.slice y.A2 2 y.c2) := by have : w1.cell? ⟨ad.block, ad.off + 5 + 3, none⟩ = some (.slice y.A2 y.S.rest.length y.c2) := k10; rw [q1] at this; exact this
  have HV1 := Lib.hid hv1
  rw [eb3] at HV1 y4 y4'
  rw [ea1] at x2
  clear hv0 hv1 ea1 eb3 k11 k12 k13
  clear k1 k2 k3 k4 k5 k6 k7 k8 k9 k10 hP hx hb1 HK g0 g1 j0 j1 j2 j3 s0 s1 s2 s3
  have HQ0 := Lib.hid q0
  have HQ1 := Lib.hid q1
  have HP0 := Lib.hid p0
  have HP2 := Lib.hid p1
  clear q0 q1 p0 p1
  obtain ⟨z, g0, g1, j0, j1, j2, j3, s0, s1, s2, s3, hS, bl⟩ := id HK1.out
  clear z bl hS s0 s1 s2 s3
  go_wp2_with fail
  refine (join_ex (some ad) c [x, y] _ HP1.out HX.out).mono ?_
  rintro e w2 ⟨⟨T1, t1, T2, t2, T3, t3, rfl, hT⟩, hb2⟩
  have hb3 := hb2.trans ((below_alloc w2 (.cells #[.int .i64 1, .slice T1 5 t1, .slice T2 5 t2, .slice T3 2 t3] 40)).mono hb2.size)
  have HK2 := Lib.hid (HK1.out.next hb3)
  have HV2 := Lib.hid (HV1.out.next hb3)
  have HT2 := Lib.hid (hT.next (below_alloc w2 (.cells #[.int .i64 1, .slice T1 5 t1, .slice T2 5 t2, .slice T3 2 t3] 40)))
  have HZ2 := Lib.hid (heap_alloc_new w2 (.cells #[.int .i64 1, .slice T1 5 t1, .slice T2 5 t2, .slice T3 2 t3] 40))
  have hk : ∀ (a : Addr) (v : Value), w1.cell? a = some v → (w2.alloc (.cells #[.int .i64 1, .slice T1 5 t1, .slice T2 5 t2, .slice T3 2 t3] 40)).cell? a = some v := fun a v h => (hb3.cell (p := a) (World.block_lt_of_cell? w1 a h)).trans h
  have x2' := hk _ _ x2
  have v2' := hk _ _ v2
  have m1' := hk _ _ m1
  have y0' := hk _ _ y0
  have y1' := hk _ _ y1
  have y2' := hk _ _ y2
  have y3' := hk _ _ y3
  have y4'' := hk _ _ y4
  clear hk x2 v2 m1 y0 y1 y2 y3 y4 y4' g0 g1 j0 j1 j2 j3 hb3 hb2 hT HK1 HP1 HV1
  generalize x.c1 = d1 at *
  generalize y.A1 = B1 at *
  generalize y.A2 = B2 at *
  generalize y.c1 = e1 at *
  generalize y.c2 = e2 at *
  generalize y.c3 = e3 at *
  go_upto_region 8 with fail
  generalize w2.alloc (.cells #[.int .i64 1, .slice T1 5 t1, .slice T2 5 t2, .slice T3 2 t3] 40) = W2 at *
  generalize w2.heap.size = bt at *
  have HK := Lib.hid (show ∀ (W : World) (a : Addr) (v : Value), Below W2.heap.size W2 W → W2.cell? a = some v → W.cell? a = some v from fun W a v hb h => (hb.cell (p := a) (World.block_lt_of_cell? W2 a h)).trans h)
  have T0 : W2.cell? ⟨bt, 0, none⟩ = some (.int .i64 1) := cell_of_row W2 bt 0 _ 40 (0, 0) HZ2.out
  have T1' : W2.cell? ⟨bt, 1, none⟩ = some (.slice T1 5 t1) := cell_of_row W2 bt 1 _ 40 (0, 0) HZ2.out
  have T2' : W2.cell? ⟨bt, 2, none⟩ = some (.slice T2 5 t2) := cell_of_row W2 bt 2 _ 40 (0, 0) HZ2.out
  have T3' : W2.cell? ⟨bt, 3, none⟩ = some (.slice T3 2 t3) := cell_of_row W2 bt 3 _ 40 (0, 0) HZ2.out
  obtain ⟨z, g0, g1, j0, j1, j2, j3, s0, s1, s2, s3, hS, bl⟩ := id HK2.out
  clear z
  have HF := Lib.hid (show ∀ W : World, Below W2.heap.size W2 W → W.cell? ⟨w.heap.size, 0, none⟩ = some (.int .i64 5) ∧ W.cell? ⟨w.heap.size, 1, none⟩ = some (.slice none 0 0) ∧ W.cell? ⟨w.heap.size + 1, 0, none⟩ = some (.int .i64 2) ∧ W.cell? ⟨w.heap.size + 1, 1, none⟩ = some (.int .i64 0) ∧ W.cell? ⟨w.heap.size + 1, 2, none⟩ = some (.int .i64 3) ∧ W.cell? ⟨w.heap.size + 1, 3, none⟩ = some (.int .i64 2) ∧ W.cell? ⟨w.heap.size + 1 + 1 + 1 + 1 + 1, 0, none⟩ = some (.int .i64 1) ∧ W.cell? ⟨w.heap.size + 1 + 1 + 1 + 1 + 1, 1, none⟩ = some (.slice (some ⟨w.heap.size + 1 + 1, 0, none⟩) 5 5) ∧ W.cell? ⟨w.heap.size + 1 + 1 + 1 + 1 + 1, 2, none⟩ = some (.slice (some ⟨w.heap.size + 1 + 1 + 1, 0, none⟩) 5 5) ∧ W.cell? ⟨w.heap.size + 1 + 1 + 1 + 1 + 1, 3, none⟩ = some (.slice (some ⟨w.heap.size + 1 + 1 + 1 + 1, 0, none⟩) 2 2) ∧ W.cell? ⟨bt, 0, none⟩ = some (.int .i64 1) ∧ W.cell? ⟨bt, 1, none⟩ = some (.slice T1 5 t1) ∧ W.cell? ⟨bt, 2, none⟩ = some (.slice T2 5 t2) ∧ W.cell? ⟨bt, 3, none⟩ = some (.slice T3 2 t3) ∧ W.cell? ⟨ad.block, ad.off + 2, none⟩ = some (.slice (some a1) 3 d1) ∧ W.cell? ⟨a1.block, a1.off + 2, none⟩ = some (.int .i64 14) ∧ W.cell? ⟨ad.block, ad.off + 5, none⟩ = some (.int .i64 1) ∧ W.cell? ⟨ad.block, ad.off + 5 + 1, none⟩ = some (.int .i64 1) ∧ W.cell? ⟨ad.block, ad.off + 5 + 2, none⟩ = some (.slice B1 2 e1) ∧ W.cell? ⟨ad.block, ad.off + 5 + 3, none⟩ = some (.slice B2 2 e2) ∧ W.cell? ⟨ad.block, ad.off + 5 + 4, none⟩ = some (.slice (some b3) 1 e3) ∧ W.cell? ⟨b3.block, b3.off + 1, none⟩ = some (.int .i64 5) ∧ Below W2.heap.size W2 W by
    intro W hb
    exact ⟨HK.out _ _ _ hb g0, HK.out _ _ _ hb g1, HK.out _ _ _ hb j0, HK.out _ _ _ hb j1, HK.out _ _ _ hb j2, HK.out _ _ _ hb j3, HK.out _ _ _ hb s0, HK.out _ _ _ hb s1, HK.out _ _ _ hb s2, HK.out _ _ _ hb s3, HK.out _ _ _ hb T0, HK.out _ _ _ hb T1', HK.out _ _ _ hb T2', HK.out _ _ _ hb T3', HK.out _ _ _ hb x2', HK.out _ _ _ hb v2', HK.out _ _ _ hb y0', HK.out _ _ _ hb y1', HK.out _ _ _ hb y2', HK.out _ _ _ hb y3', HK.out _ _ _ hb y4'', HK.out _ _ _ hb m1', hb⟩)
  have CH := Lib.hid (fun (W : World) (hb : Below W2.heap.size W2 W) => home_any 2 0 3 2 3 W)
  have CC := Lib.hid (fun (W : World) (hb : Below W2.heap.size W2 W) => count_any 5 none 0 0 [] 2 0 3 2 0 W Lies.nil (Nat.le_refl _) (Nat.zero_le _))
  have CR := Lib.hid (show ∀ W : World, Below W2.heap.size W2 W → Calls Try.prog 16 #[.agg #[.int .i64 5, .slice none 0 0], .agg #[.int .i64 2, .int .i64 0, .int .i64 3, .int .i64 2], .agg #[.int .i64 1, .int .i64 1, .slice B1 2 e1, .slice B2 2 e2, .slice (some b3) 1 e3]] W fun e w' => e = .returned (.bool true) ∧ Below W.heap.size W w' from fun W hb => by
    have h := pright_any 5 none 0 0 [] 2 0 3 2 1 exB B1 e1 B2 e2 (some b3) e3 W Lies.nil (Nat.le_refl _) (Nat.zero_le _) (HV2.out.next hb)
    rw [ex_right] at h
    exact h)
  have CS := Lib.hid (show ∀ W : World, Below W2.heap.size W2 W → Calls Try.prog 24 #[.agg #[.int .i64 1, .slice (some ⟨w.heap.size + 1 + 1, 0, none⟩) 5 5, .slice (some ⟨w.heap.size + 1 + 1 + 1, 0, none⟩) 5 5, .slice (some ⟨w.heap.size + 1 + 1 + 1 + 1, 0, none⟩) 2 2], .agg #[.int .i64 1, .slice T1 5 t1, .slice T2 5 t2, .slice T3 2 t3]] W fun e w' => e = .returned (.bool true) ∧ Below W.heap.size W w' from fun W hb => same_yes exS _ _ _ _ _ _ T1 t1 T2 t2 T3 t3 W (hS.next hb) (HT2.out.next hb))
  rw [ex_home] at CH
  rw [ex_count] at CC
  have HBL := Lib.hid bl
  have q0 := HF.out W2.drew (Below.refl _ _).drew
  clear hS bl g0 g1 j0 j1 j2 j3 s0 s1 s2 s3 T0 T1' T2' T3' x2' v2' m1' y0' y1' y2' y3' y4''
  go_region_held3 (fun w' => w'.cell? ⟨w.heap.size, 0, none⟩ = some (.int .i64 5) ∧ w'.cell? ⟨w.heap.size, 1, none⟩ = some (.slice none 0 0) ∧ w'.cell? ⟨w.heap.size + 1, 0, none⟩ = some (.int .i64 2) ∧ w'.cell? ⟨w.heap.size + 1, 1, none⟩ = some (.int .i64 0) ∧ w'.cell? ⟨w.heap.size + 1, 2, none⟩ = some (.int .i64 3) ∧ w'.cell? ⟨w.heap.size + 1, 3, none⟩ = some (.int .i64 2) ∧ w'.cell? ⟨w.heap.size + 1 + 1 + 1 + 1 + 1, 0, none⟩ = some (.int .i64 1) ∧ w'.cell? ⟨w.heap.size + 1 + 1 + 1 + 1 + 1, 1, none⟩ = some (.slice (some ⟨w.heap.size + 1 + 1, 0, none⟩) 5 5) ∧ w'.cell? ⟨w.heap.size + 1 + 1 + 1 + 1 + 1, 2, none⟩ = some (.slice (some ⟨w.heap.size + 1 + 1 + 1, 0, none⟩) 5 5) ∧ w'.cell? ⟨w.heap.size + 1 + 1 + 1 + 1 + 1, 3, none⟩ = some (.slice (some ⟨w.heap.size + 1 + 1 + 1 + 1, 0, none⟩) 2 2) ∧ w'.cell? ⟨bt, 0, none⟩ = some (.int .i64 1) ∧ w'.cell? ⟨bt, 1, none⟩ = some (.slice T1 5 t1) ∧ w'.cell? ⟨bt, 2, none⟩ = some (.slice T2 5 t2) ∧ w'.cell? ⟨bt, 3, none⟩ = some (.slice T3 2 t3) ∧ w'.cell? ⟨ad.block, ad.off + 2, none⟩ = some (.slice (some a1) 3 d1) ∧ w'.cell? ⟨a1.block, a1.off + 2, none⟩ = some (.int .i64 14) ∧ w'.cell? ⟨ad.block, ad.off + 5, none⟩ = some (.int .i64 1) ∧ w'.cell? ⟨ad.block, ad.off + 5 + 1, none⟩ = some (.int .i64 1) ∧ w'.cell? ⟨ad.block, ad.off + 5 + 2, none⟩ = some (.slice B1 2 e1) ∧ w'.cell? ⟨ad.block, ad.off + 5 + 3, none⟩ = some (.slice B2 2 e2) ∧ w'.cell? ⟨ad.block, ad.off + 5 + 4, none⟩ = some (.slice (some b3) 1 e3) ∧ w'.cell? ⟨b3.block, b3.off + 1, none⟩ = some (.int .i64 5) ∧ Below W2.heap.size W2 w')
    (first | exact q1 | exact q0)
    (first | ((go_at_call 11); (with_reducible refine (CH.out _ (by first | exact q1.2.2.2.2.2.2.2.2.2.2.2.2.2.2.2.2.2.2.2.2.2.2 | exact q0.2.2.2.2.2.2.2.2.2.2.2.2.2.2.2.2.2.2.2.2.2.2)).mono ?_); rintro e w5 ⟨rfl, hb2⟩; have q1 := HF.out w5 (((by first | exact q1.2.2.2.2.2.2.2.2.2.2.2.2.2.2.2.2.2.2.2.2.2.2 | exact q0.2.2.2.2.2.2.2.2.2.2.2.2.2.2.2.2.2.2.2.2.2.2) : Below W2.heap.size W2 _).trans (hb2.mono (((by first | exact q1.2.2.2.2.2.2.2.2.2.2.2.2.2.2.2.2.2.2.2.2.2.2 | exact q0.2.2.2.2.2.2.2.2.2.2.2.2.2.2.2.2.2.2.2.2.2.2) : Below W2.heap.size W2 _)).size))) | ((go_at_call 13); (with_reducible refine (CC.out _ (by first | exact q1.2.2.2.2.2.2.2.2.2.2.2.2.2.2.2.2.2.2.2.2.2.2 | exact q0.2.2.2.2.2.2.2.2.2.2.2.2.2.2.2.2.2.2.2.2.2.2)).mono ?_); rintro e w5 ⟨rfl, hb2⟩; have q1 := HF.out w5 (((by first | exact q1.2.2.2.2.2.2.2.2.2.2.2.2.2.2.2.2.2.2.2.2.2.2 | exact q0.2.2.2.2.2.2.2.2.2.2.2.2.2.2.2.2.2.2.2.2.2.2) : Below W2.heap.size W2 _).trans (hb2.mono (((by first | exact q1.2.2.2.2.2.2.2.2.2.2.2.2.2.2.2.2.2.2.2.2.2.2 | exact q0.2.2.2.2.2.2.2.2.2.2.2.2.2.2.2.2.2.2.2.2.2.2) : Below W2.heap.size W2 _)).size))) | ((go_at_call 16); (with_reducible refine (CR.out _ (by first | exact q1.2.2.2.2.2.2.2.2.2.2.2.2.2.2.2.2.2.2.2.2.2.2 | exact q0.2.2.2.2.2.2.2.2.2.2.2.2.2.2.2.2.2.2.2.2.2.2)).mono ?_); rintro e w5 ⟨rfl, hb2⟩; have q1 := HF.out w5 (((by first | exact q1.2.2.2.2.2.2.2.2.2.2.2.2.2.2.2.2.2.2.2.2.2.2 | exact q0.2.2.2.2.2.2.2.2.2.2.2.2.2.2.2.2.2.2.2.2.2.2) : Below W2.heap.size W2 _).trans (hb2.mono (((by first | exact q1.2.2.2.2.2.2.2.2.2.2.2.2.2.2.2.2.2.2.2.2.2.2 | exact q0.2.2.2.2.2.2.2.2.2.2.2.2.2.2.2.2.2.2.2.2.2.2) : Below W2.heap.size W2 _)).size))) | ((go_at_call 24); (with_reducible refine (CS.out _ (by first | exact q1.2.2.2.2.2.2.2.2.2.2.2.2.2.2.2.2.2.2.2.2.2.2 | exact q0.2.2.2.2.2.2.2.2.2.2.2.2.2.2.2.2.2.2.2.2.2.2)).mono ?_); rintro e w5 ⟨rfl, hb2⟩; have q1 := HF.out w5 (((by first | exact q1.2.2.2.2.2.2.2.2.2.2.2.2.2.2.2.2.2.2.2.2.2.2 | exact q0.2.2.2.2.2.2.2.2.2.2.2.2.2.2.2.2.2.2.2.2.2.2) : Below W2.heap.size W2 _).trans (hb2.mono (((by first | exact q1.2.2.2.2.2.2.2.2.2.2.2.2.2.2.2.2.2.2.2.2.2.2 | exact q0.2.2.2.2.2.2.2.2.2.2.2.2.2.2.2.2.2.2.2.2.2.2) : Below W2.heap.size W2 _)).size))))
  go_wp2_with fail
  go_ret
  exact ⟨rfl, HBL.out.trans (q1.2.2.2.2.2.2.2.2.2.2.2.2.2.2.2.2.2.2.2.2.2.2.mono HBL.out.size)⟩
end Go.Proofs.Ytgfcgeiifinmmaa
