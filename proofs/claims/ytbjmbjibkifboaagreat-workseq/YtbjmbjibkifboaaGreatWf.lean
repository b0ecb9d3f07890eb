import Derived.Test.YtbjmbjibkifboaaGreatWe
import Derived.BigQuiet
import Derived.BigRegion
import Derived.Deep.RegionHeld3
/-
  The document's examples ('knows'). No condition.
-/
namespace Go.Proofs.YtbjmbjibkifboaaGreat
open Go.ChangeShapes Go.WideShapes Go.ChangeAt Go.RowKit
set_option linter.unusedVariables false

theorem mkP_inj {P Q : Int} {S T : St} (h : mkP P S = mkP Q T) : P = Q ∧ S = T := by
  unfold mkP at h
  injection h with e1 e2 e3 e4 e5
  obtain ⟨_, _, _, _⟩ := S
  obtain ⟨_, _, _, _⟩ := T
  simp only at e2 e3 e4 e5
  refine ⟨e1, ?_⟩
  rw [e2, e3, e4, e5]
theorem two_ms {os : List Le} {a b : List Ms} (h : os.map Le.ms = [a, b]) : ∃ A c B d, os = [⟨A, c, a⟩, ⟨B, d, b⟩] := by
  have hl : os.length = 2 := by have := congrArg List.length h; simpa using this
  match os, hl, h with
  | [⟨A, c, x⟩, ⟨B, d, y⟩], _, h =>
    simp only [List.map_cons, List.map_nil, List.cons.injEq, and_true] at h
    obtain ⟨h1, h2⟩ := h
    exact ⟨A, c, B, d, by rw [← h1, ← h2]⟩
def ex0 : St := ⟨0, [0], [false], []⟩
def ex1 : St := ⟨0, [9223372036854775807], [false], []⟩
def ex2 : St := ⟨1, [0], [true], []⟩
def ex3 : St := ⟨1, [9223372036854775807], [true], []⟩
def ex4 : St := ⟨1, [9223372036854775807], [true], [(1, 7)]⟩
theorem ex_do0 : doR 2 twoE 1 0 9 2 (mkP 0 ex0) = (mkP 0 ex2, [[], [(1, 7)]], 0) := by rfl
theorem ex_do1 : doR 2 twoE 1 0 9 2 (mkP 1 ex1) = (mkP 1 ex3, [[], []], 0) := by rfl
theorem ex_take : takeR 2 twoE 1 0 9 2 (mkP 1 ex3) [(1, 7)] = (mkP 1 ex4, 0) := by rfl
/-- Do, of an example. -/
theorem do_ex (P : Int) (S T : St) (a b : List Ms) (hR : doR 2 twoE 1 0 9 2 (mkP P S) = (mkP P T, [a, b], 0)) (A : Option Addr) (A1 : Option Addr) (c1 : Nat) (A2 : Option Addr) (c2 : Nat) (A3 : Option Addr) (c3 : Nat) (w : World) (hA : Lies w w.heap.size 3 A 2 (ec twoE)) (hS : StL w w.heap.size S A1 c1 A2 c2 A3 c3) :
    Calls Tryz.prog 11 #[.agg #[.int .i64 2, .slice A 2 2], .agg #[.int .i64 1, .int .i64 0, .int .i64 9, .int .i64 2], .agg #[.int .i64 P, .int .i64 S.step, .slice A1 S.vals.length c1, .slice A2 S.rest.length c2, .slice A3 S.inn.length c3]] w fun e w' => Below w.heap.size w w' ∧ ∃ B1 d1 B2 d2 B3 d3 D O0 o0 O1 o1, e = .returned (.tuple #[.agg #[.int .i64 P, .int .i64 T.step, .slice B1 T.vals.length d1, .slice B2 T.rest.length d2, .slice B3 T.inn.length d3], .slice D 2 2, .int .i64 0]) ∧ StL w' w'.heap.size T B1 d1 B2 d2 B3 d3 ∧ Lls w' w'.heap.size D 2 [⟨O0, o0, a⟩, ⟨O1, o1, b⟩] := by
  refine (do_any 2 A 2 2 twoE 1 0 9 2 P S A1 c1 A2 c2 A3 c3 w hA (Nat.le_refl _) (by decide) hS).mono ?_
  rw [hR]
  rintro e w2 ⟨hb2, Q, T', B1, d1, B2, d2, B3, d3, D, os, rfl, hx, hm, hT, hD, f1, f2, f3, f4, f5⟩
  obtain ⟨rfl, rfl⟩ := mkP_inj hx
  obtain ⟨O0, o0, O1, o1, rfl⟩ := two_ms hm
  exact ⟨hb2, B1, d1, B2, d2, B3, d3, D, O0, o0, O1, o1, rfl, hT, hD⟩
theorem take_ex (A : Option Addr) (A1 : Option Addr) (c1 : Nat) (A2 : Option Addr) (c2 : Nat) (A3 : Option Addr) (c3 : Nat) (D O1 : Option Addr) (o1 : Nat) (w : World) (hA : Lies w w.heap.size 3 A 2 (ec twoE)) (hS : StL w w.heap.size ex3 A1 c1 A2 c2 A3 c3) (hD : Lls w w.heap.size D 2 [⟨O1, o1, [(1, 7)]⟩, noLe]) :
    Calls Tryz.prog 12 #[.agg #[.int .i64 2, .slice A 2 2], .agg #[.int .i64 1, .int .i64 0, .int .i64 9, .int .i64 2], .agg #[.int .i64 1, .int .i64 1, .slice A1 1 c1, .slice A2 1 c2, .slice A3 0 c3], .slice D 2 2] w fun e w' => Below w.heap.size w w' ∧ ∃ B1 d1 B2 d2 B3 d3, e = .returned (.tuple #[.agg #[.int .i64 1, .int .i64 1, .slice B1 1 d1, .slice B2 1 d2, .slice B3 1 d3], .int .i64 0]) ∧ StL w' w'.heap.size ex4 B1 d1 B2 d2 B3 d3 ∧ Fr w.heap.size B1 ∧ Fr w.heap.size B2 ∧ Fr w.heap.size B3 := by
  refine (take_any 2 A 2 2 twoE 1 0 9 2 1 ex3 A1 c1 A2 c2 A3 c3 D 2 [⟨O1, o1, [(1, 7)]⟩, noLe] w hA (Nat.le_refl _) (by decide) hS hD (by show 2 ≤ 1000; omega) (by show 1 ≤ 100000; omega) (fun e he => ?_)).mono ?_
  · have he : e ∈ [((1 : Int), (7 : Int))] := he
    rw [List.mem_singleton.1 he]; exact ⟨by decide, by decide⟩
  · rw [show lcatl [⟨O1, o1, [(1, 7)]⟩, noLe] = [(1, 7)] from rfl, ex_take]
    rintro e w2 ⟨hb2, Q, T', B1, d1, B2, d2, B3, d3, rfl, hx, hT, f1, f2, f3⟩
    obtain ⟨rfl, rfl⟩ := mkP_inj hx
    exact ⟨hb2, B1, d1, B2, d2, B3, d3, rfl, hT, f1, f2, f3⟩
theorem ok_of (v : Int) (hv : bd v) : Ok ⟨0, [v], [false], []⟩ := by
  refine ⟨bd0, fun x hx => ?_, fun x hx => (by cases hx), by simp, by simp, by simp⟩
  rw [List.mem_singleton.1 hx]; exact hv
theorem st_new (W : World) (v : Int) (hv : bd v) : StL ((W.alloc (.cells #[.int .i64 v] 2)).alloc (.cells #[.bool false] 4)) ((W.alloc (.cells #[.int .i64 v] 2)).alloc (.cells #[.bool false] 4)).heap.size ⟨0, [v], [false], []⟩ (some ⟨W.heap.size, 0, none⟩) 1 (some ⟨W.heap.size + 1, 0, none⟩) 1 none 0 := by
  have e : (W.alloc (.cells #[.int .i64 v] 2)).heap.size = W.heap.size + 1 := by simp
  refine ⟨?_, ?_, Lies.nil, Nat.le_refl _, Nat.le_refl _, Nat.le_refl _, ok_of v hv⟩
  · exact ((lies_v W v).more (by simp)).next (below_alloc _ _)
  · have := lies_r (W.alloc (.cells #[.int .i64 v] 2)) false
    rw [e] at this
    exact this.more (by simp)
/-- The examples' graph and job stand in memory. -/
structure Kw (w W : World) : Prop where
  z : w.heap.size + 3 ≤ W.heap.size
  g0 : W.cell? ⟨w.heap.size + 1, 0, none⟩ = some (.int .i64 2)
  g1 : W.cell? ⟨w.heap.size + 1, 1, none⟩ = some (.slice (some ⟨w.heap.size, 0, none⟩) 2 2)
  j0 : W.cell? ⟨w.heap.size + 1 + 1, 0, none⟩ = some (.int .i64 1)
  j1 : W.cell? ⟨w.heap.size + 1 + 1, 1, none⟩ = some (.int .i64 0)
  j2 : W.cell? ⟨w.heap.size + 1 + 1, 2, none⟩ = some (.int .i64 9)
  j3 : W.cell? ⟨w.heap.size + 1 + 1, 3, none⟩ = some (.int .i64 2)
  L : Lies W W.heap.size 3 (some ⟨w.heap.size, 0, none⟩) 2 (ec twoE)
  bl : Below w.heap.size w W
theorem Kw.next {w W W' : World} (h : Kw w W) (hb : Below W.heap.size W W') : Kw w W' :=
  have k : ∀ b o, b < w.heap.size + 3 → W'.cell? ⟨b, o, none⟩ = W.cell? ⟨b, o, none⟩ := fun b o hl => hb.cell (p := ⟨b, o, none⟩) (Nat.lt_of_lt_of_le hl h.z)
  ⟨Nat.le_trans h.z hb.size, (k _ _ (by omega)).trans h.g0, (k _ _ (by omega)).trans h.g1, (k _ _ (by omega)).trans h.j0, (k _ _ (by omega)).trans h.j1, (k _ _ (by omega)).trans h.j2, (k _ _ (by omega)).trans h.j3, h.L.next hb, h.bl.trans (hb.mono (by have := h.z; omega))⟩
theorem Kw.init (w : World) : Kw w (((w.alloc (.cells #[.int .i64 0, .int .i64 1, .int .i64 7, .int .i64 1, .int .i64 0, .int .i64 5] 57)).alloc (.cells #[.int .i64 2, .slice (some ⟨w.heap.size, 0, none⟩) 2 2] 24)).alloc (.cells #[.int .i64 1, .int .i64 0, .int .i64 9, .int .i64 2] 26)) := by
  have hl := lies_cells w (ec twoE) 57 2 3 rfl
  refine ⟨by simp, by simp [go_sem], by simp [go_sem], by simp [go_sem], by simp [go_sem], by simp [go_sem], by simp [go_sem], ?_, (((Below.refl _ _).alloc (Nat.le_refl _) _).alloc (by simp) _).alloc (by simp; omega) _⟩
  exact ((hl.more (B' := (w.alloc (.cells (ec twoE).toArray 57)).heap.size) (by simp)).next (below_alloc _ _)).next (below_alloc _ _)
/-- A partition stands in block b. -/
def At5 (b : Nat) (cs : Array Value) (W : World) : Prop := W.heap[b]? = some (.cells cs 45 (0, 0))
theorem At5.next {b : Nat} {cs : Array Value} {W W' : World} (h : At5 b cs W) (hb : Below W.heap.size W W') : At5 b cs W' := (hb.block _ (lt_of_block h)).trans h
theorem know_facts {W : World} {B : Nat} {A : Option Addr} (h : Lies W B 2 A 1 (mc [(1, 7)])) : ∃ ad, A = some ad ∧ W.cell? ad = some (.int .i64 1) ∧ W.cell? ⟨ad.block, ad.off + 1, none⟩ = some (.int .i64 7) := by
  obtain ⟨ad, e, _, m0, m1⟩ := h.ms 0 (by omega)
  refine ⟨ad, e, ?_, m1⟩
  rw [← add_zero ad]; exact m0
theorem quiet_ex2 (X1 : Option Addr) (x1 : Nat) (X2 : Option Addr) (x2 : Nat) (X3 : Option Addr) (x3 : Nat) (w : World) (h : StL w w.heap.size ex2 X1 x1 X2 x2 X3 x3) :
    Calls Tryz.prog 16 #[.agg #[.int .i64 0, .int .i64 1, .slice X1 1 x1, .slice X2 1 x2, .slice X3 0 x3]] w fun e w' => e = .returned (.bool true) ∧ Below w.heap.size w w' := pquiet_any 0 ex2 X1 x1 X2 x2 X3 x3 w h
theorem quiet_ex4 (X1 : Option Addr) (x1 : Nat) (X2 : Option Addr) (x2 : Nat) (X3 : Option Addr) (x3 : Nat) (w : World) (h : StL w w.heap.size ex4 X1 x1 X2 x2 X3 x3) :
    Calls Tryz.prog 16 #[.agg #[.int .i64 1, .int .i64 1, .slice X1 1 x1, .slice X2 1 x2, .slice X3 1 x3]] w fun e w' => e = .returned (.bool false) ∧ Below w.heap.size w w' := pquiet_any 1 ex4 X1 x1 X2 x2 X3 x3 w h
set_option maxRecDepth 20000 in
set_option maxHeartbeats 4000000 in
theorem knows_any (w : World) : Calls Tryz.prog 8 #[] w fun e w' => e = .returned (.bool true) ∧ Below w.heap.size w w' := by
  have mixed : Tryz.prog.follows .mixedOrders = true := by kernel_rfl
  have HK := Lib.hid (Kw.init w)
  go_enter Tryz.func8, Tryz.ntmps8
  go_upto_region 3 with fail
  generalize ((w.alloc (.cells #[.int .i64 0, .int .i64 1, .int .i64 7, .int .i64 1, .int .i64 0, .int .i64 5] 57)).alloc (.cells #[.int .i64 2, .slice (some ⟨w.heap.size, 0, none⟩) 2 2] 24)).alloc (.cells #[.int .i64 1, .int .i64 0, .int .i64 9, .int .i64 2] 26) = W0 at HK ⊢
  obtain ⟨z, g0, g1, j0, j1, j2, j3, hL, bl⟩ := id HK.out
  have hb1 : Below W0.heap.size W0 ((W0.alloc (.cells #[.int .i64 0] 2)).alloc (.cells #[.bool false] 4)) := ((Below.refl _ _).alloc (Nat.le_refl _) _).alloc (by simp) _
  have HK1 := Lib.hid (HK.out.next hb1)
  have C1 := Lib.hid (do_ex 0 ex0 ex2 [] [(1, 7)] ex_do0 (some ⟨w.heap.size, 0, none⟩) _ 1 _ 1 none 0 _ HK1.out.L (st_new W0 0 bd0))
  clear z bl hL hb1
  go_wp2_with fail
  refine C1.out.mono ?_
  rintro e w1 ⟨hb1, X1, x1, X2, x2, X3, x3, D, O0, o0, O1, o1, rfl, hX, hD⟩
  have HK2 := Lib.hid ((HK1.out.next hb1).next (below_alloc w1 (.cells #[.int .i64 0, .int .i64 1, .slice X1 1 x1, .slice X2 1 x2, .slice X3 0 x3] 45)))
  have HX2 := Lib.hid (hX.next (below_alloc w1 (.cells #[.int .i64 0, .int .i64 1, .slice X1 1 x1, .slice X2 1 x2, .slice X3 0 x3] 45)))
  have HD2 := Lib.hid (hD.next (below_alloc w1 (.cells #[.int .i64 0, .int .i64 1, .slice X1 1 x1, .slice X2 1 x2, .slice X3 0 x3] 45)))
  have HA2 := Lib.hid (show At5 w1.heap.size #[.int .i64 0, .int .i64 1, .slice X1 1 x1, .slice X2 1 x2, .slice X3 0 x3] (w1.alloc (.cells #[.int .i64 0, .int .i64 1, .slice X1 1 x1, .slice X2 1 x2, .slice X3 0 x3] 45)) from heap_alloc_new _ _)
  clear g0 g1 j0 j1 j2 j3 hb1 hX hD C1 HK HK1
  go_upto_region 4 with fail
  dsimp only [ex2, List.length_cons, List.length_nil]
  obtain ⟨bx, hbx⟩ : ∃ b, b = w1.heap.size := ⟨_, rfl⟩
  rw [← hbx] at HA2 ⊢
  generalize w1.alloc (.cells #[.int .i64 0, .int .i64 1, .slice X1 1 x1, .slice X2 1 x2, .slice X3 0 x3] 45) = W1 at HK2 HX2 HD2 HA2 ⊢
  clear hbx
  obtain ⟨z, g0, g1, j0, j1, j2, j3, hL, bl⟩ := id HK2.out
  have hb3 : Below W1.heap.size W1 ((W1.alloc (.cells #[.int .i64 9223372036854775807] 2)).alloc (.cells #[.bool false] 4)) := ((Below.refl _ _).alloc (Nat.le_refl _) _).alloc (by simp) _
  have HB3 := Lib.hid hb3
  have HK3 := Lib.hid (HK2.out.next hb3)
  have C2 := Lib.hid (do_ex 1 ex1 ex3 [] [] ex_do1 (some ⟨w.heap.size, 0, none⟩) _ 1 _ 1 none 0 _ HK3.out.L (st_new W1 9223372036854775807 ⟨by decide, by decide⟩))
  clear z bl hL hb3
  go_wp2_with fail
  refine C2.out.mono ?_
  rintro e w2 ⟨hb2, Y1, y1, Y2, y2, Y3, y3, F, P0, p0, P1, p1, rfl, hY, hF⟩
  have hb4 := HB3.out.trans ((hb2.trans ((below_alloc w2 (.cells #[.int .i64 1, .int .i64 1, .slice Y1 1 y1, .slice Y2 1 y2, .slice Y3 0 y3] 45)).mono hb2.size)).mono HB3.out.size)
  have HK4 := Lib.hid (HK2.out.next hb4)
  have HX4 := Lib.hid (HX2.out.next hb4)
  have HD4 := Lib.hid (HD2.out.next hb4)
  have HA4 := Lib.hid (HA2.out.next hb4)
  have HY4 := Lib.hid (hY.next (below_alloc w2 (.cells #[.int .i64 1, .int .i64 1, .slice Y1 1 y1, .slice Y2 1 y2, .slice Y3 0 y3] 45)))
  have HC4 := Lib.hid (show At5 w2.heap.size #[.int .i64 1, .int .i64 1, .slice Y1 1 y1, .slice Y2 1 y2, .slice Y3 0 y3] (w2.alloc (.cells #[.int .i64 1, .int .i64 1, .slice Y1 1 y1, .slice Y2 1 y2, .slice Y3 0 y3] 45)) from heap_alloc_new _ _)
  clear g0 g1 j0 j1 j2 j3 hb2 hb4 hY hF C2 HK2 HK3 HX2 HD2 HA2 HB3
  go_upto_region 5 with fail
  dsimp only [ex3, List.length_cons, List.length_nil]
  obtain ⟨bb, hbb⟩ : ∃ b, b = w2.heap.size := ⟨_, rfl⟩
  rw [← hbb] at HC4 ⊢
  generalize w2.alloc (.cells #[.int .i64 1, .int .i64 1, .slice Y1 1 y1, .slice Y2 1 y2, .slice Y3 0 y3] 45) = W2 at HK4 HX4 HD4 HA4 HY4 HC4 ⊢
  clear hbb
  obtain ⟨ad, hD, hadb, d0⟩ := HD4.out.L.2 0 _ (lcl_at [⟨O0, o0, []⟩, ⟨O1, o1, [(1, 7)]⟩] 0 (by show 0 < 2; omega))
  subst hD
  obtain ⟨ad', hD', hadb', d1⟩ := HD4.out.L.2 1 _ (lcl_at [⟨O0, o0, []⟩, ⟨O1, o1, [(1, 7)]⟩] 1 (by show 1 < 2; omega))
  injection hD' with hD'
  subst hD'
  have d0 : W2.cell? ad = some (.slice O0 0 o0) := by rw [← add_zero ad]; exact d0
  have d1 : W2.cell? ⟨ad.block, ad.off + 1, none⟩ = some (.slice O1 1 o1) := d1
  have HD1 := Lib.hid d1
  have a2 : W2.cell? ⟨bx, 2, none⟩ = some (.slice X1 1 x1) := cell_of_row W2 bx 2 _ 45 (0, 0) HA4.out
  go_upto_region 7 with fail
  clear d0 d1 a2
  have HF := Lib.hid (show ∀ W : World, Below W2.heap.size W2 W → W.cell? ⟨w.heap.size + 1, 0, none⟩ = some (.int .i64 2) ∧ W.cell? ⟨w.heap.size + 1, 1, none⟩ = some (.slice (some ⟨w.heap.size, 0, none⟩) 2 2) ∧ W.cell? ⟨w.heap.size + 1 + 1, 0, none⟩ = some (.int .i64 1) ∧ W.cell? ⟨w.heap.size + 1 + 1, 1, none⟩ = some (.int .i64 0) ∧ W.cell? ⟨w.heap.size + 1 + 1, 2, none⟩ = some (.int .i64 9) ∧ W.cell? ⟨w.heap.size + 1 + 1, 3, none⟩ = some (.int .i64 2) ∧ W.cell? ⟨bb, 0, none⟩ = some (.int .i64 1) ∧ W.cell? ⟨bb, 1, none⟩ = some (.int .i64 1) ∧ W.cell? ⟨bb, 2, none⟩ = some (.slice Y1 1 y1) ∧ W.cell? ⟨bb, 3, none⟩ = some (.slice Y2 1 y2) ∧ W.cell? ⟨bb, 4, none⟩ = some (.slice Y3 0 y3) ∧ W.cell? ⟨ad.block, ad.off + 1, none⟩ = some (.slice O1 1 o1) by
    intro W hb
    have h := HK4.out.next hb
    have hy := HC4.out.next hb
    exact ⟨h.g0, h.g1, h.j0, h.j1, h.j2, h.j3, cell_of_row W bb 0 _ 45 (0, 0) hy, cell_of_row W bb 1 _ 45 (0, 0) hy, cell_of_row W bb 2 _ 45 (0, 0) hy, cell_of_row W bb 3 _ 45 (0, 0) hy, cell_of_row W bb 4 _ 45 (0, 0) hy, (hb.cell (p := ⟨ad.block, ad.off + 1, none⟩) hadb).trans HD1.out⟩)
  have CT := Lib.hid (fun (W : World) (D' : Option Addr) (hb : Below W2.heap.size W2 W) (hl : Lls W W.heap.size D' 2 [⟨O1, o1, [(1, 7)]⟩, noLe]) => take_ex (some ⟨w.heap.size, 0, none⟩) Y1 y1 Y2 y2 Y3 y3 D' O1 o1 W (HK4.out.L.next hb) (HY4.out.next hb) hl)
  have HLN := Lib.hid (show ∀ W : World, Below W2.heap.size W2 W → Lls (W.alloc (.cells #[.slice O1 1 o1, .slice none 0 0] 29)) (W.alloc (.cells #[.slice O1 1 o1, .slice none 0 0] 29)).heap.size (some ⟨W.heap.size, 0, none⟩) 2 [⟨O1, o1, [(1, 7)]⟩, noLe] by
    intro W hb
    refine ⟨(lies_cells W (lcl [⟨O1, o1, [(1, 7)]⟩, noLe]) 29 2 1 rfl).more (by simp), Nat.le_refl _, fun e he => ?_⟩
    rcases List.mem_cons.1 he with rfl | he
    · exact ((HD4.out.el _ (List.mem_cons_of_mem _ (List.mem_cons_self ..))).next hb).next (below_alloc _ _)
    · rw [List.mem_singleton.1 he]; exact Lies.nil)
  have BR : ∀ W : World, Below W.heap.size W W.drew := fun W => (Below.refl _ _).drew
  have B0 := Lib.hid (show Below W2.heap.size W2 W2.drew from BR _)
  have BA := Lib.hid (show Below W2.heap.size W2 (W2.alloc (.cells #[.slice O1 1 o1, .slice none 0 0] 29)).drew from ((Below.refl _ _).alloc (Nat.le_refl _) _).drew)
  have BZ := Lib.hid (show Below W2.heap.size W2 (W2.alloc (.cells #[.int .i64 0, .int .i64 0, .slice none 0 0, .slice none 0 0, .slice none 0 0] 45)).drew from ((Below.refl _ _).alloc (Nat.le_refl _) _).drew)
  have BB := Lib.hid (show Below W2.heap.size W2 ((W2.alloc (.cells #[.int .i64 0, .int .i64 0, .slice none 0 0, .slice none 0 0, .slice none 0 0] 45)).alloc (.cells #[.slice O1 1 o1, .slice none 0 0] 29)).drew from (((Below.refl _ _).alloc (Nat.le_refl _) _).alloc (by simp) _).drew)
  have BC := Lib.hid (show Below W2.heap.size W2 ((W2.alloc (.cells #[.slice O1 1 o1, .slice none 0 0] 29)).alloc (.cells #[.int .i64 0, .int .i64 0, .slice none 0 0, .slice none 0 0, .slice none 0 0] 45)).drew from (((Below.refl _ _).alloc (Nat.le_refl _) _).alloc (by simp) _).drew)
  have LA := Lib.hid (show Lls (W2.alloc (.cells #[.slice O1 1 o1, .slice none 0 0] 29)).drew (W2.alloc (.cells #[.slice O1 1 o1, .slice none 0 0] 29)).drew.heap.size (some ⟨W2.heap.size, 0, none⟩) 2 [⟨O1, o1, [(1, 7)]⟩, noLe] from (HLN.out W2 (Below.refl _ _)).next (BR _))
  have LB := Lib.hid (show Lls ((W2.alloc (.cells #[.int .i64 0, .int .i64 0, .slice none 0 0, .slice none 0 0, .slice none 0 0] 45)).alloc (.cells #[.slice O1 1 o1, .slice none 0 0] 29)).drew ((W2.alloc (.cells #[.int .i64 0, .int .i64 0, .slice none 0 0, .slice none 0 0, .slice none 0 0] 45)).alloc (.cells #[.slice O1 1 o1, .slice none 0 0] 29)).drew.heap.size (some ⟨W2.heap.size + 1, 0, none⟩) 2 [⟨O1, o1, [(1, 7)]⟩, noLe] by
    have h := (HLN.out (W2.alloc (.cells #[.int .i64 0, .int .i64 0, .slice none 0 0, .slice none 0 0, .slice none 0 0] 45)) (below_alloc _ _)).next (BR _)
    rw [show (W2.alloc (.cells #[.int .i64 0, .int .i64 0, .slice none 0 0, .slice none 0 0, .slice none 0 0] 45)).heap.size = W2.heap.size + 1 by simp] at h
    exact h)
  have LC := Lib.hid (show Lls ((W2.alloc (.cells #[.slice O1 1 o1, .slice none 0 0] 29)).alloc (.cells #[.int .i64 0, .int .i64 0, .slice none 0 0, .slice none 0 0, .slice none 0 0] 45)).drew ((W2.alloc (.cells #[.slice O1 1 o1, .slice none 0 0] 29)).alloc (.cells #[.int .i64 0, .int .i64 0, .slice none 0 0, .slice none 0 0, .slice none 0 0] 45)).drew.heap.size (some ⟨W2.heap.size, 0, none⟩) 2 [⟨O1, o1, [(1, 7)]⟩, noLe] from ((HLN.out W2 (Below.refl _ _)).next (below_alloc _ _)).next (BR _))
  have ZB := Lib.hid (show ((W2.alloc (.cells #[.int .i64 0, .int .i64 0, .slice none 0 0, .slice none 0 0, .slice none 0 0] 45)).alloc (.cells #[.slice O1 1 o1, .slice none 0 0] 29)).drew.heap[W2.heap.size]? = some (.cells #[.int .i64 0, .int .i64 0, .slice none 0 0, .slice none 0 0, .slice none 0 0] 45) from (heap_alloc_old _ _ (by simp)).trans (heap_alloc_new _ _))
  have ZC := Lib.hid (show ((W2.alloc (.cells #[.slice O1 1 o1, .slice none 0 0] 29)).alloc (.cells #[.int .i64 0, .int .i64 0, .slice none 0 0, .slice none 0 0, .slice none 0 0] 45)).drew.heap[W2.heap.size + 1]? = some (.cells #[.int .i64 0, .int .i64 0, .slice none 0 0, .slice none 0 0, .slice none 0 0] 45) by
    have e : (W2.alloc (.cells #[.slice O1 1 o1, .slice none 0 0] 29)).heap.size = W2.heap.size + 1 := by simp
    rw [← e]; exact heap_alloc_new _ _)
  have HB5 := Lib.hid (show ∀ (W : World) (b : Nat) (u0 u1 u2 u3 u4 : Value), Below W2.heap.size W2 W → W2.heap.size ≤ b → Below W2.heap.size W2 (((((W.setCell ⟨b, 0, none⟩ u0).setCell ⟨b, 1, none⟩ u1).setCell ⟨b, 2, none⟩ u2).setCell ⟨b, 3, none⟩ u3).setCell ⟨b, 4, none⟩ u4) from fun W b u0 u1 u2 u3 u4 h hle => ((((h.setCell (p := ⟨b, 0, none⟩) hle _).setCell (p := ⟨b, 1, none⟩) hle _).setCell (p := ⟨b, 2, none⟩) hle _).setCell (p := ⟨b, 3, none⟩) hle _).setCell (p := ⟨b, 4, none⟩) hle _)
  clear BR
  have q0 := HF.out _ B0.out
  go_cut [9, 10] (fun s9 s10 W => ∃ bz Z1 z1 Z2 z2 Z3 z3, s9 = .pointer (some ⟨bz, 0, none⟩) ∧ s10 = .int .i64 0 ∧ Below W2.heap.size W2 W ∧ StL W W.heap.size ex4 Z1 z1 Z2 z2 Z3 z3 ∧ At5 bz #[.int .i64 1, .int .i64 1, .slice Z1 1 z1, .slice Z2 1 z2, .slice Z3 1 z3] W)
  case first =>
    go_region_held3 (fun w' => w'.cell? ⟨w.heap.size + 1, 0, none⟩ = some (.int .i64 2) ∧ w'.cell? ⟨w.heap.size + 1, 1, none⟩ = some (.slice (some ⟨w.heap.size, 0, none⟩) 2 2) ∧ w'.cell? ⟨w.heap.size + 1 + 1, 0, none⟩ = some (.int .i64 1) ∧ w'.cell? ⟨w.heap.size + 1 + 1, 1, none⟩ = some (.int .i64 0) ∧ w'.cell? ⟨w.heap.size + 1 + 1, 2, none⟩ = some (.int .i64 9) ∧ w'.cell? ⟨w.heap.size + 1 + 1, 3, none⟩ = some (.int .i64 2) ∧ w'.cell? ⟨bb, 0, none⟩ = some (.int .i64 1) ∧ w'.cell? ⟨bb, 1, none⟩ = some (.int .i64 1) ∧ w'.cell? ⟨bb, 2, none⟩ = some (.slice Y1 1 y1) ∧ w'.cell? ⟨bb, 3, none⟩ = some (.slice Y2 1 y2) ∧ w'.cell? ⟨bb, 4, none⟩ = some (.slice Y3 0 y3) ∧ w'.cell? ⟨ad.block, ad.off + 1, none⟩ = some (.slice O1 1 o1))
      (first | with_reducible exact q1 | with_reducible exact q0 | with_reducible exact HF.out _ BA.out | with_reducible exact HF.out _ BZ.out | with_reducible exact HF.out _ BB.out | with_reducible exact HF.out _ BC.out | with_reducible exact HF.out _ (B7.out.alloc B7.out.size _) | with_reducible exact HF.out _ (HB5.out _ _ _ _ _ _ _ B7.out (Nat.le_refl _)) | with_reducible exact HF.out _ (HB5.out _ _ _ _ _ _ _ B7.out (Nat.le_succ _)))
      (first | ((go_at_call 12); (with_reducible refine (CT.out _ _ BA.out LA.out).mono ?_); rintro e w7 ⟨hb7, Z1, z1, Z2, z2, Z3, z3, rfl, hZ, t1, t2, t3⟩; have B7 := Lib.hid (BA.out.trans (hb7.mono BA.out.size)); have HZ := Lib.hid hZ; have q1 := HF.out _ B7.out; clear hb7 hZ t1 t2 t3 q0) | ((go_at_call 12); (with_reducible refine (CT.out _ _ BB.out LB.out).mono ?_); rintro e w7 ⟨hb7, Z1, z1, Z2, z2, Z3, z3, rfl, hZ, t1, t2, t3⟩; have B7 := Lib.hid (BB.out.trans (hb7.mono BB.out.size)); have HZ := Lib.hid hZ; have T1 := Lib.hid t1; have T2 := Lib.hid t2; have T3 := Lib.hid t3; have q1 := HF.out _ B7.out; have z6 := (hb7.block W2.heap.size (lt_of_block ZB.out)).trans ZB.out; have r0 := cell_of_row w7 _ 0 _ 45 (0, 0) z6; have f0 := unfrozen z6 0; have r1 := cell_of_row w7 _ 1 _ 45 (0, 0) z6; have f1 := unfrozen z6 1; have r2 := cell_of_row w7 _ 2 _ 45 (0, 0) z6; have f2 := unfrozen z6 2; have r3 := cell_of_row w7 _ 3 _ 45 (0, 0) z6; have f3 := unfrozen z6 3; have r4 := cell_of_row w7 _ 4 _ 45 (0, 0) z6; have f4 := unfrozen z6 4; have Z6 := Lib.hid z6; clear hb7 hZ t1 t2 t3 z6 q0) | ((go_at_call 12); (with_reducible refine (CT.out _ _ BC.out LC.out).mono ?_); rintro e w7 ⟨hb7, Z1, z1, Z2, z2, Z3, z3, rfl, hZ, t1, t2, t3⟩; have B7 := Lib.hid (BC.out.trans (hb7.mono BC.out.size)); have HZ := Lib.hid hZ; have T1 := Lib.hid t1; have T2 := Lib.hid t2; have T3 := Lib.hid t3; have q1 := HF.out _ B7.out; have z6 := (hb7.block (W2.heap.size + 1) (lt_of_block ZC.out)).trans ZC.out; have r0 := cell_of_row w7 _ 0 _ 45 (0, 0) z6; have f0 := unfrozen z6 0; have r1 := cell_of_row w7 _ 1 _ 45 (0, 0) z6; have f1 := unfrozen z6 1; have r2 := cell_of_row w7 _ 2 _ 45 (0, 0) z6; have f2 := unfrozen z6 2; have r3 := cell_of_row w7 _ 3 _ 45 (0, 0) z6; have f3 := unfrozen z6 3; have r4 := cell_of_row w7 _ 4 _ 45 (0, 0) z6; have f4 := unfrozen z6 4; have Z6 := Lib.hid z6; clear hb7 hZ t1 t2 t3 z6 q0))
    all_goals
      go_wp2_with fail
      go_meet
      first
        | exact ⟨_, Z1, z1, Z2, z2, Z3, z3, rfl, rfl, B7.out.alloc B7.out.size _, HZ.out.next (below_alloc _ _), heap_alloc_new _ _⟩
        | exact ⟨_, Z1, z1, Z2, z2, Z3, z3, rfl, rfl, HB5.out _ _ _ _ _ _ _ B7.out (Nat.le_refl _), HZ.out.five T1.out T2.out T3.out (lt_of_block ZB.out) _ _ _ _ _, set_heap (set_heap (set_heap (set_heap (set_heap Z6.out _) _) _) _) _⟩
        | exact ⟨_, Z1, z1, Z2, z2, Z3, z3, rfl, rfl, HB5.out _ _ _ _ _ _ _ B7.out (Nat.le_succ _), HZ.out.five T1.out T2.out T3.out (lt_of_block ZC.out) _ _ _ _ _, set_heap (set_heap (set_heap (set_heap (set_heap Z6.out _) _) _) _) _⟩
  case rest =>
    obtain ⟨bz, Z1, z1, Z2, z2, Z3, z3, rfl, rfl, hb, hZ, hz⟩ := hcut
    have HKF := Lib.hid (HK4.out.next hb).bl
    have HXF := Lib.hid (HX4.out.next hb)
    have HZF := Lib.hid hZ
    have HAF := Lib.hid (HA4.out.next hb)
    have l1 := (HF.out _ hb).2.2.2.2.2.2.2.2.2.2.2
    have hO := (HD4.out.next hb).el _ (List.mem_cons_of_mem _ (List.mem_cons_self ..))
    have HHZ := Lib.hid hz
    clear q0 HF CT HLN B0 BA BZ BB BC LA LB LC ZB ZC HB5 HD1 HK4 HX4 HD4 HA4 HY4 HC4 hb hZ hz
    obtain ⟨ad1, rfl, m0, m1⟩ := know_facts hO
    clear hO
    have x0 := cell_of_row _ bx 0 _ 45 (0, 0) HAF.out
    have x1' := cell_of_row _ bx 1 _ 45 (0, 0) HAF.out
    have x2' := cell_of_row _ bx 2 _ 45 (0, 0) HAF.out
    have x3' := cell_of_row _ bx 3 _ 45 (0, 0) HAF.out
    have x4 := cell_of_row _ bx 4 _ 45 (0, 0) HAF.out
    go_wp2_with fail
    refine (quiet_ex2 X1 x1 X2 x2 X3 x3 _ HXF.out).mono ?_
    rintro e w8 ⟨rfl, hb8⟩
    have HK8 := Lib.hid (HKF.out.trans (hb8.mono HKF.out.size))
    have HZ8 := Lib.hid (HZF.out.next hb8)
    have z8 := HHZ.out.next hb8
    clear x0 x1' x2' x3' x4 m0 m1 l1 hb8 HKF HXF HZF HAF HHZ
    obtain ⟨ad3, rfl, n0, n1⟩ := know_facts HZ8.out.m
    have y0 := cell_of_row w8 bz 0 _ 45 (0, 0) z8
    have y1' := cell_of_row w8 bz 1 _ 45 (0, 0) z8
    have y2' := cell_of_row w8 bz 2 _ 45 (0, 0) z8
    have y3' := cell_of_row w8 bz 3 _ 45 (0, 0) z8
    have y4 := cell_of_row w8 bz 4 _ 45 (0, 0) z8
    clear z8
    go_wp2_with fail
    refine (quiet_ex4 Z1 z1 Z2 z2 (some ad3) z3 _ HZ8.out).mono ?_
    rintro e w9 ⟨rfl, hb9⟩
    have HK9 := Lib.hid (HK8.out.trans (hb9.mono HK8.out.size))
    clear y0 y1' y2' y3' y4 n0 n1 hb9
    go_wp2_with fail
    go_ret
    exact ⟨rfl, HK9.out⟩
end Go.Proofs.YtbjmbjibkifboaaGreat

