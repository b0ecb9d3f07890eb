import Derived.Test.YtcaccjfnibjbpaaKe
import Derived.Test.YtcaccjfnibjbpaaKf
/-
  The contract of the document's own Turn where it tells an error. No condition but that the numbers are of 64 bits.
-/
namespace Go.Proofs.Ytcaccjfnibjbpaa
open Go.ChangeShapes Go.WideShapes Go.ChangeAt Go.RowKit
set_option linter.unusedVariables false

def RuPost (t : Int × List Ms × Bool × Int) (w : World) (r : Ending) (w' : World) : Prop :=
  Below w.heap.size w w' ∧ ∃ A c, r = .returned (.agg #[.int .i64 t.1, .slice A t.2.1.length c, .bool t.2.2.1, .int .i64 t.2.2.2]) ∧ w'.ownsRow w.heap.size 59 2 (.slice A t.2.1.length c) t.2.1.length (mc t.2.1)
theorem ru_none {t : Int × List Ms × Bool × Int} {x : Int} {b : Bool} {e : Int} {w w' : World} (h : t = (x, [], b, e)) (hb : Below w.heap.size w w') : RuPost t w (.returned (.agg #[.int .i64 x, .slice none 0 0, .bool b, .int .i64 e])) w' := by
  subst h
  exact ⟨hb, none, 0, rfl, World.ownsRow_nil _ _ _ _⟩
set_option maxHeartbeats 1000000 in
theorem rturn_v (N : Int) (A : Option Addr) (n c : Nat) (es : List Ed) (p s l q st v val got : Int) (sm : Bool) (w : World) (hA : Lies w w.heap.size 3 A n (ec es)) (hnc : n ≤ c) (hn : n ≤ maxLen) (hv : ¬ vchk N es p s l q v = 0) :
    Calls Try.prog 32 #[.agg #[.int .i64 N, .slice A n c], .agg #[.int .i64 p, .int .i64 s, .int .i64 l, .int .i64 q], .int .i64 st, .int .i64 v, .int .i64 val, .int .i64 got, .bool sm] w (RuPost (turnR N es p s l q st v val got sm) w) := by
  have hbx := (Bx.init w N A n c p s l q).alloc (.cells #[.int .i64 0, .slice none 0 0, .bool false, .int .i64 0] 75)
  have hA1 := hA.next hbx.bl
  have HBX := Lib.hid hbx
  clear hbx
  have HR := Lib.hid (show turnR N es p s l q st v val got sm = (0, [], false, vchk N es p s l q v) by unfold turnR; rw [if_neg hv])
  by_cases hj : jchk N es p s l q = 0
  · have h4 : ¬ (0 ≤ v ∧ v < N) := by
      intro h
      apply hv
      unfold vchk
      rw [if_pos hj, if_pos h]
    have e4 : vchk N es p s l q v = 4 := by unfold vchk; rw [if_pos hj, if_neg h4]
    rw [e4] at HR
    have HJ := Lib.hid hj
    have H4 := Lib.hid h4
    clear hj hv e4 h4
    go_enter Try.func32, Try.ntmps32
    go_wp2_with fail
    refine (rjcheck_any N A n c es p s l q _ hA1 hnc hn).mono ?_
    rintro e w3 ⟨rfl, hb1⟩
    rw [HJ.out]
    have hx3 := HBX.out.next hb1
    have H3 := Lib.hid hx3.bl
    have hr3 := (third w N A n c p s l q _ w3 hb1).1
    have hl3 := (third w N A n c p s l q _ w3 hb1).2
    have r0 : w3.cell? ⟨w.heap.size + 1 + 1, 0, none⟩ = some (.int .i64 0) := cell_of_row w3 (w.heap.size + 1 + 1) 0 _ 75 (0, 0) hr3
    have f0 : w3.frozen? ⟨w.heap.size + 1 + 1, 0, none⟩ = false := unfrozen hr3 0
    have r1 : w3.cell? ⟨w.heap.size + 1 + 1, 1, none⟩ = some (.slice none 0 0) := cell_of_row w3 (w.heap.size + 1 + 1) 1 _ 75 (0, 0) hr3
    have f1 : w3.frozen? ⟨w.heap.size + 1 + 1, 1, none⟩ = false := unfrozen hr3 1
    have r2 : w3.cell? ⟨w.heap.size + 1 + 1, 2, none⟩ = some (.bool false) := cell_of_row w3 (w.heap.size + 1 + 1) 2 _ 75 (0, 0) hr3
    have f2 : w3.frozen? ⟨w.heap.size + 1 + 1, 2, none⟩ = false := unfrozen hr3 2
    have r3 : w3.cell? ⟨w.heap.size + 1 + 1, 3, none⟩ = some (.int .i64 0) := cell_of_row w3 (w.heap.size + 1 + 1) 3 _ 75 (0, 0) hr3
    have f3 : w3.frozen? ⟨w.heap.size + 1 + 1, 3, none⟩ = false := unfrozen hr3 3
    obtain ⟨z1, g0, g1, j0, j1, j2, j3, bl1⟩ := id hx3
    have HR3 := Lib.hid hr3
    have HX3 := Lib.hid hx3
    clear hr3 hb1 hA1 HBX z1 g1 j2 j3 bl1 hx3
    by_cases hv0 : v < 0
    · go_wp2_with fail
      refine bodyPost_ret (v := .agg #[.int .i64 0, .slice none 0 0, .bool false, .int .i64 4]) (by simp [results, Try.results32, go_sem, r0, r1, r2, r3]) rfl ?_
      exact ru_none HR.out ((((H3.out.setCell (by simp; omega) _).setCell (by simp; omega) _).setCell (by simp; omega) _).setCell (by simp; omega) _)
    · have hv1 : N ≤ v := by have := H4.out; omega
      go_wp2_with fail
      refine bodyPost_ret (v := .agg #[.int .i64 0, .slice none 0 0, .bool false, .int .i64 4]) (by simp [results, Try.results32, go_sem, r0, r1, r2, r3]) rfl ?_
      exact ru_none HR.out ((((H3.out.setCell (by simp; omega) _).setCell (by simp; omega) _).setCell (by simp; omega) _).setCell (by simp; omega) _)
  · have e4 : vchk N es p s l q v = jchk N es p s l q := by unfold vchk; rw [if_neg hj]
    rw [e4] at HR
    have h1 : (jchk N es p s l q != 0) = true := by simpa using hj
    clear hj hv e4
    go_enter Try.func32, Try.ntmps32
    go_wp2_with fail
    refine (rjcheck_any N A n c es p s l q _ hA1 hnc hn).mono ?_
    rintro e w3 ⟨rfl, hb1⟩
    have hx3 := HBX.out.next hb1
    have H3 := Lib.hid hx3.bl
    have hr3 := (third w N A n c p s l q _ w3 hb1).1
    have hl3 := (third w N A n c p s l q _ w3 hb1).2
    have r0 : w3.cell? ⟨w.heap.size + 1 + 1, 0, none⟩ = some (.int .i64 0) := cell_of_row w3 (w.heap.size + 1 + 1) 0 _ 75 (0, 0) hr3
    have f0 : w3.frozen? ⟨w.heap.size + 1 + 1, 0, none⟩ = false := unfrozen hr3 0
    have r1 : w3.cell? ⟨w.heap.size + 1 + 1, 1, none⟩ = some (.slice none 0 0) := cell_of_row w3 (w.heap.size + 1 + 1) 1 _ 75 (0, 0) hr3
    have f1 : w3.frozen? ⟨w.heap.size + 1 + 1, 1, none⟩ = false := unfrozen hr3 1
    have r2 : w3.cell? ⟨w.heap.size + 1 + 1, 2, none⟩ = some (.bool false) := cell_of_row w3 (w.heap.size + 1 + 1) 2 _ 75 (0, 0) hr3
    have f2 : w3.frozen? ⟨w.heap.size + 1 + 1, 2, none⟩ = false := unfrozen hr3 2
    have r3 : w3.cell? ⟨w.heap.size + 1 + 1, 3, none⟩ = some (.int .i64 0) := cell_of_row w3 (w.heap.size + 1 + 1) 3 _ 75 (0, 0) hr3
    have f3 : w3.frozen? ⟨w.heap.size + 1 + 1, 3, none⟩ = false := unfrozen hr3 3
    obtain ⟨z1, g0, g1, j0, j1, j2, j3, bl1⟩ := id hx3
    have HR3 := Lib.hid hr3
    have HX3 := Lib.hid hx3
    clear hr3 hb1 hA1 HBX z1 g1 j2 j3 bl1 hx3
    go_wp2_with fail
    refine bodyPost_ret (v := .agg #[.int .i64 0, .slice none 0 0, .bool false, .int .i64 (jchk N es p s l q)]) (by simp [results, Try.results32, go_sem, r0, r1, r2, r3]) rfl ?_
    exact ru_none HR.out ((((H3.out.setCell (by simp; omega) _).setCell (by simp; omega) _).setCell (by simp; omega) _).setCell (by simp; omega) _)
set_option maxHeartbeats 1000000 in
theorem rturn_step (N : Int) (A : Option Addr) (n c : Nat) (es : List Ed) (p s l q st v val got : Int) (sm : Bool) (w : World) (hA : Lies w w.heap.size 3 A n (ec es)) (hnc : n ≤ c) (hn : n ≤ maxLen) (hv : vchk N es p s l q v = 0) (hst : st < 0 ∨ 40 < st) :
    Calls Try.prog 32 #[.agg #[.int .i64 N, .slice A n c], .agg #[.int .i64 p, .int .i64 s, .int .i64 l, .int .i64 q], .int .i64 st, .int .i64 v, .int .i64 val, .int .i64 got, .bool sm] w (RuPost (turnR N es p s l q st v val got sm) w) := by
  have hbx := (Bx.init w N A n c p s l q).alloc (.cells #[.int .i64 0, .slice none 0 0, .bool false, .int .i64 0] 75)
  have hA1 := hA.next hbx.bl
  have HBX := Lib.hid hbx
  clear hbx
  have HR := Lib.hid (show turnR N es p s l q st v val got sm = (0, [], false, 1) by unfold turnR; rw [if_pos hv, if_pos hst])
  obtain ⟨hj, hv0, hv1⟩ := vchk_zero hv
  have HJ := Lib.hid hj
  have HST := Lib.hid hst
  clear hv hst hj
  go_enter Try.func32, Try.ntmps32
  go_wp2_with fail
  refine (rjcheck_any N A n c es p s l q _ hA1 hnc hn).mono ?_
  rintro e w3 ⟨rfl, hb1⟩
  rw [HJ.out]
  have hx3 := HBX.out.next hb1
  have H3 := Lib.hid hx3.bl
  have hr3 := (third w N A n c p s l q _ w3 hb1).1
  have hl3 := (third w N A n c p s l q _ w3 hb1).2
  have r0 : w3.cell? ⟨w.heap.size + 1 + 1, 0, none⟩ = some (.int .i64 0) := cell_of_row w3 (w.heap.size + 1 + 1) 0 _ 75 (0, 0) hr3
  have f0 : w3.frozen? ⟨w.heap.size + 1 + 1, 0, none⟩ = false := unfrozen hr3 0
  have r1 : w3.cell? ⟨w.heap.size + 1 + 1, 1, none⟩ = some (.slice none 0 0) := cell_of_row w3 (w.heap.size + 1 + 1) 1 _ 75 (0, 0) hr3
  have f1 : w3.frozen? ⟨w.heap.size + 1 + 1, 1, none⟩ = false := unfrozen hr3 1
  have r2 : w3.cell? ⟨w.heap.size + 1 + 1, 2, none⟩ = some (.bool false) := cell_of_row w3 (w.heap.size + 1 + 1) 2 _ 75 (0, 0) hr3
  have f2 : w3.frozen? ⟨w.heap.size + 1 + 1, 2, none⟩ = false := unfrozen hr3 2
  have r3 : w3.cell? ⟨w.heap.size + 1 + 1, 3, none⟩ = some (.int .i64 0) := cell_of_row w3 (w.heap.size + 1 + 1) 3 _ 75 (0, 0) hr3
  have f3 : w3.frozen? ⟨w.heap.size + 1 + 1, 3, none⟩ = false := unfrozen hr3 3
  obtain ⟨z1, g0, g1, j0, j1, j2, j3, bl1⟩ := id hx3
  have HR3 := Lib.hid hr3
  have HX3 := Lib.hid hx3
  clear hr3 hb1 hA1 HBX z1 g1 j2 j3 bl1 hx3
  by_cases h1 : st < 0
  · go_wp2_with fail
    refine bodyPost_ret (v := .agg #[.int .i64 0, .slice none 0 0, .bool false, .int .i64 1]) (by simp [results, Try.results32, go_sem, r0, r1, r2, r3]) rfl ?_
    exact ru_none HR.out ((((H3.out.setCell (by simp; omega) _).setCell (by simp; omega) _).setCell (by simp; omega) _).setCell (by simp; omega) _)
  · have h2 : 40 < st := by have := HST.out; omega
    go_wp2_with fail
    refine bodyPost_ret (v := .agg #[.int .i64 0, .slice none 0 0, .bool false, .int .i64 1]) (by simp [results, Try.results32, go_sem, r0, r1, r2, r3]) rfl ?_
    exact ru_none HR.out ((((H3.out.setCell (by simp; omega) _).setCell (by simp; omega) _).setCell (by simp; omega) _).setCell (by simp; omega) _)
set_option maxHeartbeats 1000000 in
theorem rturn_val (N : Int) (A : Option Addr) (n c : Nat) (es : List Ed) (s l q st v val got : Int) (sm : Bool) (w : World) (hA : Lies w w.heap.size 3 A n (ec es)) (hnc : n ≤ c) (hn : n ≤ maxLen) (hgb : bd got) (hvc : vchk N es 5 s l q v = 0) (hst : ¬ (st < 0 ∨ 40 < st)) (hvb : ¬ valB 5 st val got sm = true) :
    Calls Try.prog 32 #[.agg #[.int .i64 N, .slice A n c], .agg #[.int .i64 5, .int .i64 s, .int .i64 l, .int .i64 q], .int .i64 st, .int .i64 v, .int .i64 val, .int .i64 got, .bool sm] w (RuPost (turnR N es 5 s l q st v val got sm) w) := by
  have hbx := (Bx.init w N A n c 5 s l q).alloc (.cells #[.int .i64 0, .slice none 0 0, .bool false, .int .i64 0] 75)
  have hA1 := hA.next hbx.bl
  have HBX := Lib.hid hbx
  clear hbx
  have HR := Lib.hid (show turnR N es 5 s l q st v val got sm = (0, [], false, 8) by unfold turnR; rw [if_pos hvc, if_neg hst, if_neg hvb])
  obtain ⟨hj, hv0, hv1⟩ := vchk_zero hvc
  have HJ := Lib.hid hj
  obtain ⟨s1, s2⟩ : ¬ st < 0 ∧ ¬ 40 < st := by omega
  have s3 : ¬ st = 0 := fun h => hvb (by unfold valB; rw [if_pos rfl, if_pos h])
  have hs4 : 0 < st := by omega
  have HB := Lib.hid (show sumB (cameI got sm) = false by
    unfold sumB
    unfold valB at hvb
    rw [if_pos rfl, if_neg s3] at hvb
    simpa using hvb)
  have HSU := Lib.hid (fun W => rsum_any (cameI got sm) W (cameI_bd hgb))
  clear hvc hst hj hvb s3
  go_enter Try.func32, Try.ntmps32
  go_wp2_with fail
  refine (rjcheck_any N A n c es 5 s l q _ hA1 hnc hn).mono ?_
  rintro e w3 ⟨rfl, hb1⟩
  rw [HJ.out]
  have hx3 := HBX.out.next hb1
  have H3 := Lib.hid hx3.bl
  have hr3 := (third w N A n c 5 s l q _ w3 hb1).1
  have hl3 := (third w N A n c 5 s l q _ w3 hb1).2
  have r0 : w3.cell? ⟨w.heap.size + 1 + 1, 0, none⟩ = some (.int .i64 0) := cell_of_row w3 (w.heap.size + 1 + 1) 0 _ 75 (0, 0) hr3
  have f0 : w3.frozen? ⟨w.heap.size + 1 + 1, 0, none⟩ = false := unfrozen hr3 0
  have r1 : w3.cell? ⟨w.heap.size + 1 + 1, 1, none⟩ = some (.slice none 0 0) := cell_of_row w3 (w.heap.size + 1 + 1) 1 _ 75 (0, 0) hr3
  have f1 : w3.frozen? ⟨w.heap.size + 1 + 1, 1, none⟩ = false := unfrozen hr3 1
  have r2 : w3.cell? ⟨w.heap.size + 1 + 1, 2, none⟩ = some (.bool false) := cell_of_row w3 (w.heap.size + 1 + 1) 2 _ 75 (0, 0) hr3
  have f2 : w3.frozen? ⟨w.heap.size + 1 + 1, 2, none⟩ = false := unfrozen hr3 2
  have r3 : w3.cell? ⟨w.heap.size + 1 + 1, 3, none⟩ = some (.int .i64 0) := cell_of_row w3 (w.heap.size + 1 + 1) 3 _ 75 (0, 0) hr3
  have f3 : w3.frozen? ⟨w.heap.size + 1 + 1, 3, none⟩ = false := unfrozen hr3 3
  obtain ⟨z1, g0, g1, j0, j1, j2, j3, bl1⟩ := id hx3
  have HR3 := Lib.hid hr3
  have HX3 := Lib.hid hx3
  clear hr3 hb1 hA1 HBX z1 g1 j2 j3 bl1 hx3
  cases sm with
  | true =>
    have e1 : cameI got true = got := rfl
    rw [e1] at HB HSU
    clear e1
    go_wp2_with fail
    refine (HSU.out _).mono ?_
    rintro e w4 ⟨rfl, rfl⟩
    rw [HB.out]
    go_wp2_with fail
    refine bodyPost_ret (v := .agg #[.int .i64 0, .slice none 0 0, .bool false, .int .i64 8]) (by simp [results, Try.results32, go_sem, r0, r1, r2, r3]) rfl ?_
    exact ru_none HR.out ((((H3.out.setCell (by simp; omega) _).setCell (by simp; omega) _).setCell (by simp; omega) _).setCell (by simp; omega) _)
  | false =>
    have e1 : cameI got false = 0 := rfl
    rw [e1] at HB HSU
    clear e1
    go_wp2_with fail
    refine (HSU.out _).mono ?_
    rintro e w4 ⟨rfl, rfl⟩
    rw [HB.out]
    go_wp2_with fail
    refine bodyPost_ret (v := .agg #[.int .i64 0, .slice none 0 0, .bool false, .int .i64 8]) (by simp [results, Try.results32, go_sem, r0, r1, r2, r3]) rfl ?_
    exact ru_none HR.out ((((H3.out.setCell (by simp; omega) _).setCell (by simp; omega) _).setCell (by simp; omega) _).setCell (by simp; omega) _)
end Go.Proofs.Ytcaccjfnibjbpaa

/-
  Words for memory in which one block alone is written: 'Bel1'; and the step law of an append whose run is known. No condition.
-/
namespace Go.Proofs.Ytcaccjfnibjbpaa
open Go.ChangeShapes Go.WideShapes Go.ChangeAt Go.RowKit
set_option linter.unusedVariables false

/-- Ahead of block B nothing has changed but block g. -/
structure Bel1 (B g : Nat) (w W : World) : Prop where
  os : W.os = w.os
  tape : W.tape = w.tape
  output : W.output = w.output
  size : w.heap.size ≤ W.heap.size
  block : ∀ k, k < B → k ≠ g → W.heap[k]? = w.heap[k]?
theorem Bel1.refl (B g : Nat) (w : World) : Bel1 B g w w := ⟨rfl, rfl, rfl, Nat.le_refl _, fun _ _ _ => rfl⟩
theorem Bel1.below {B B' g : Nat} {w W W' : World} (h : Bel1 B g w W) (hb : Below B' W W') (hB : B ≤ B') : Bel1 B g w W' :=
  ⟨hb.os.trans h.os, hb.tape.trans h.tape, hb.output.trans h.output, Nat.le_trans h.size hb.size, fun k h1 h2 => (hb.block k (Nat.lt_of_lt_of_le h1 hB)).trans (h.block k h1 h2)⟩
theorem Bel1.drew {B g : Nat} {w W : World} (h : Bel1 B g w W) : Bel1 B g w W.drew := ⟨h.os, h.tape, h.output, h.size, h.block⟩
theorem Bel1.set {B g : Nat} {w W : World} (h : Bel1 B g w W) (i : Nat) (v : Value) : Bel1 B g w (W.setCell ⟨g, i, none⟩ v) := by
  have hb := (Below.refl 0 W).setCell (p := ⟨g, i, none⟩) (Nat.zero_le _) v
  refine ⟨hb.os.trans h.os, hb.tape.trans h.tape, hb.output.trans h.output, Nat.le_trans h.size hb.size, fun k h1 h2 => ?_⟩
  have e : (W.setCell ⟨g, i, none⟩ v).heap[k]? = W.heap[k]? := by
    rcases Nat.lt_or_gt_of_ne h2 with hl | hl
    · exact ((Below.refl g W).setCell (p := ⟨g, i, none⟩) (Nat.le_refl _) v).block k hl
    · simp [World.setCell, Array.getElem?_modify]
      intro hgk
      omega
  exact e.trans (h.block k h1 h2)
theorem Bel1.cell {B g : Nat} {w W : World} (h : Bel1 B g w W) {p : Addr} (h1 : p.block < B) (h2 : p.block ≠ g) : W.cell? p = w.cell? p := by
  unfold World.cell?
  rw [h.block _ h1 h2]
theorem Bel1.low {B g : Nat} {w W : World} (h : Bel1 B g w W) {B' : Nat} (h1 : B' ≤ B) (h2 : B' ≤ g) : Below B' w W := ⟨h.os, h.tape, h.output, h.size, fun k hk => h.block k (by omega) (by omega)⟩
theorem Bel1.own {g base s n : Nat} {w W : World} {e : TypeId} {v : Value} {xs : List Value} (h : Bel1 w.heap.size g w W) (ho : w.ownsRow base e s v n xs) (hg : g < base) : W.ownsRow base e s v n xs := by
  refine ⟨ho.1, ?_⟩
  rcases ho.2 with h2 | ⟨g', cap, cur, hv, hg', hc, r⟩
  · exact .inl h2
  · refine .inr ⟨g', cap, cur, hv, hg', ?_, r⟩
    rw [h.block g' (Array.getElem?_eq_some_iff.1 hc).1 (by omega)]
    exact hc
/-- A row that lies behind a block that is written stays. -/
theorem own_set {g base s n : Nat} {W : World} {e : TypeId} {v : Value} {xs : List Value} (ho : W.ownsRow base e s v n xs) (hg : g < base) (i : Nat) (u : Value) : (W.setCell ⟨g, i, none⟩ u).ownsRow base e s v n xs :=
  ((Bel1.refl W.heap.size g W).set i u).own ho hg
theorem set_heap {W : World} {g i : Nat} {cur : Array Value} {t : TypeId} (h : W.heap[g]? = some (.cells cur t (0, 0))) (v : Value) : (W.setCell ⟨g, i, none⟩ v).heap[g]? = some (.cells (cur.setIfInBounds i v) t (0, 0)) := by
  rw [setCell_eq_setRow W g i cur t (0, 0) v h]
  exact setRow_heap W g cur _ t (0, 0) h
theorem step_app {P : Program} {ops : Array Oper} {o : Oper} {a : Act} {w : World} {K : Act → World → Prop} {Q : Exit → Act → World → Prop} {E : Prop}
    (hg : o.guard = none) (d x : Operand) (dT sT : TypeId) (hop : o.op = Op.call { callee := Callee.builtin Builtin.append, args := #[d, x], argTypes := #[dT, sT] })
    (v u : Value) (hd : a.eval d = v) (hx : a.eval x = u) {v' : Value} {w' : World} (hr : (Builtin.append_ #[dT, sT] o.type #[v, u]).run P w = .ok v' w') (hK : K (a.put o.dst v') w') :
    if Region.wanted o (yielded ops a.tmps) = true then Oper.wp P o a w K Q else E := by
  have hw : Region.wanted o (yielded ops a.tmps) = true := by simp [Region.wanted, hg]
  rw [if_pos hw]
  unfold Oper.wp
  simp [execOp, hop, resolve, invoke, builtin, hd, hx, hr, Result.andThen]
  exact hK
/-- The loop of the document's Turn: k messages stand in block b. -/
def RtRel (p now : Int) (rest : Bool) (out : List Ed) (b : Nat) (w5 : World) (i : Value) (W : World) : Prop :=
  ∃ (k : Nat) (A : Option Addr) (c : Nat), i = .int .i64 k ∧ k ≤ out.length ∧ W.ownsRow w5.heap.size 59 2 (.slice A k c) k (mc (msgL p now out.length (out.take k))) ∧
    W.heap[b]? = some (.cells #[.int .i64 now, .slice A k c, .bool rest, .int .i64 0] 75 (0, 0)) ∧ Bel1 w5.heap.size b w5 W ∧ msgB p now out.length (out.take k) = true
end Go.Proofs.Ytcaccjfnibjbpaa

