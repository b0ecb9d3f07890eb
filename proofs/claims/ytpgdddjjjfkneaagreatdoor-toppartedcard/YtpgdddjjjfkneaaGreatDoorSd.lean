import Derived.Test.YtpgdddjjjfkneaaGreatDoorKu
import Derived.Test.YtpgdddjjjfkneaaGreatDoorWkM
import Derived.BigRegion
import Derived.BigQuiet
import Derived.Deep.DeepCutAuto
import Derived.Deep.Cut
import Derived.Deep.RegionHeld3
import Derived.Deep.OwnRows
import Derived.WalkMore
namespace Go.Proofs.YtpgdddjjjfkneaaGreatDoor
open Go.RowKit
open Go.ChangeShapes Go.WideShapes Go.ChangeAt Go.RowKit
set_option linter.unusedVariables false

section
variable {w w' : World} {B B' s n : Nat} {A : Option Addr} {xs : List Value}
end
section
variable {P : Program} (w : World)
end
theorem below_of_drew {B : Nat} {w w' : World} (h : Below B w.drew w') : Below B w w' := ⟨h.os, h.tape, h.output, h.size, h.block⟩
theorem turnS_len (N : Int) (es : List Ed) (p s l q : Int) (S : St) (v : Nat) : (turnS N es p s l q S v).2.1.length ≤ 80 := by
  unfold turnS
  split
  · simp
  · exact turnR_len ..
theorem super_ok {N : Int} {es : List Ed} {p s l q : Int} {S : St} (h : Ok S) (hN : N ≤ 24) (hs : S.step ≤ 40) : Ok (superR N es p s l q S).1 := by
  unfold superR
  split
  · split
    · have h1 := sentL_len (turnS N es p s l q S) (turnS_len N es p s l q S) N.toNat
      have h2 := fdR_len p (sentL (turnS N es p s l q S) N.toNat)
      have h3 := h.st
      refine ⟨?_, ?_, fdR_bd (sentL_bd h _), ?_, ?_, ?_⟩
      · unfold bd at h3 ⊢; dsimp only; omega
      · intro x hx
        simp only [valsL, List.mem_map] at hx
        obtain ⟨v, _, rfl⟩ := hx
        exact (turnS_bd h v).1
      · show (valsL _ _).length ≤ _; rw [valsL_len]; omega
      · show (restL _ _).length ≤ _; rw [restL_len]; omega
      · dsimp only; omega
    · exact Ok.no
  · exact Ok.no
section
variable {w4 : World} {bn : Nat} {st1 : Int} {gV cV gR cR n : Nat} {vs : List Int} {rs : List Bool} {W W' : World}
end
/-- What Step, Begin and their like answer: a state, in memory of the call's own, and a number. -/
def StPost (t : St × Int) (w : World) (r : Ending) (w' : World) : Prop :=
  Below w.heap.size w w' ∧ ∃ A1 c1 A2 c2 A3 c3, r = .returned (.tuple #[.agg #[.int .i64 t.1.step, .slice A1 t.1.vals.length c1, .slice A2 t.1.rest.length c2, .slice A3 t.1.inn.length c3], .int .i64 t.2]) ∧ StL w' w'.heap.size t.1 A1 c1 A2 c2 A3 c3 ∧ Fr w.heap.size A1 ∧ Fr w.heap.size A2 ∧ Fr w.heap.size A3
theorem st_no {t : St × Int} {e : Int} {w w' : World} (h : t = (noSt, e)) (hb : Below w.heap.size w w') : StPost t w (.returned (.tuple #[.agg #[.int .i64 0, .slice none 0 0, .slice none 0 0, .slice none 0 0], .int .i64 e])) w' := by
  subst h
  exact ⟨hb, none, 0, none, 0, none, 0, rfl, StL.no _ _, Fr.no _, Fr.no _, Fr.no _⟩
/-- The fourth block, for the answer. -/
theorem fourth (w : World) (o1 o2 o3 o4 : Obj) (W : World) (hb : Below ((((w.alloc o1).alloc o2).alloc o3).alloc o4).heap.size ((((w.alloc o1).alloc o2).alloc o3).alloc o4) W) :
    W.heap[w.heap.size + 1 + 1 + 1]? = some o4 := by
  have e : (((w.alloc o1).alloc o2).alloc o3).heap.size = w.heap.size + 1 + 1 + 1 := by simp
  rw [hb.block _ (by simp), ← e]
  exact heap_alloc_new _ _
theorem sp_new {w4 W : World} {st1 : Int} {gV cV gR cR n : Nat} {vs : List Int} {rs : List Bool} (hb : Below w4.heap.size w4 W) (hv : W.ownsRow w4.heap.size 2 1 (.slice (some ⟨gV, 0, none⟩) n cV) n (vc vs)) (hr : W.ownsRow w4.heap.size 4 1 (.slice (some ⟨gR, 0, none⟩) n cR) n (rc rs)) :
    Sp w4 W.heap.size st1 gV cV gR cR n vs rs (W.alloc (.cells #[.int .i64 st1, .slice (some ⟨gV, 0, none⟩) n cV, .slice (some ⟨gR, 0, none⟩) n cR, .slice none 0 0] 39)) :=
  ⟨hb.alloc hb.size _, heap_alloc_new _ _, own_next hv (below_alloc _ _), own_next hr (below_alloc _ _), hb.size⟩
theorem sp_old {w4 W : World} {bn : Nat} {st1 : Int} {gV cV gR cR n : Nat} {vs : List Int} {rs : List Bool} (hb : Below w4.heap.size w4 W) (hv : W.ownsRow w4.heap.size 2 1 (.slice (some ⟨gV, 0, none⟩) n cV) n (vc vs)) (hr : W.ownsRow w4.heap.size 4 1 (.slice (some ⟨gR, 0, none⟩) n cR) n (rc rs))
    (hz : W.heap[bn]? = some (.cells #[.int .i64 0, .slice none 0 0, .slice none 0 0, .slice none 0 0] 39 (0, 0))) (hbn : w4.heap.size ≤ bn) :
    Sp w4 bn st1 gV cV gR cR n vs rs ((((W.setCell ⟨bn, 0, none⟩ (.int .i64 st1)).setCell ⟨bn, 1, none⟩ (.slice (some ⟨gV, 0, none⟩) n cV)).setCell ⟨bn, 2, none⟩ (.slice (some ⟨gR, 0, none⟩) n cR)).setCell ⟨bn, 3, none⟩ (.slice none 0 0)) := by
  have n1 := own_ne hv hz (by decide)
  have n2 := own_ne hr hz (by decide)
  refine ⟨(((hb.setCell (p := ⟨bn, 0, none⟩) hbn _).setCell (p := ⟨bn, 1, none⟩) hbn _).setCell (p := ⟨bn, 2, none⟩) hbn _).setCell (p := ⟨bn, 3, none⟩) hbn _, ?_, ?_, ?_, hbn⟩
  · exact set_heap (set_heap (set_heap (set_heap hz _) _) _) _
  · exact ownsRow_setCell_other (ownsRow_setCell_other (ownsRow_setCell_other (ownsRow_setCell_other hv (a := ⟨bn, 0, none⟩) n1 _) (a := ⟨bn, 1, none⟩) n1 _) (a := ⟨bn, 2, none⟩) n1 _) (a := ⟨bn, 3, none⟩) n1 _
  · exact ownsRow_setCell_other (ownsRow_setCell_other (ownsRow_setCell_other (ownsRow_setCell_other hr (a := ⟨bn, 0, none⟩) n2 _) (a := ⟨bn, 1, none⟩) n2 _) (a := ⟨bn, 2, none⟩) n2 _) (a := ⟨bn, 3, none⟩) n2 _
def Sp6Rel (w4 : World) (bn : Nat) (st1 : Int) (gV cV gR cR n : Nat) (T : Nat → Int × List Ms × Bool × Int) (S : St) (o i : Value) (W : World) : Prop :=
  ∃ (k : Nat) (AS : Option Addr) (cS : Nat), i = .int .i64 k ∧ k ≤ n ∧ o = .slice AS (sentL T k).length cS ∧ Hid (W.ownsRow w4.heap.size 118 2 (.slice AS (sentL T k).length cS) (sentL T k).length (mc (sentL T k))) ∧
    Hid (Sp w4 bn st1 gV cV gR cR n (valsL T k ++ S.vals.drop k) (restL T k ++ S.rest.drop k) W) ∧ Hid (errL T k = 0)
set_option maxRecDepth 20000 in
set_option maxHeartbeats 4000000 in
theorem super_any (N : Int) (A : Option Addr) (n c : Nat) (es : List Ed) (p s l q : Int) (S : St) (A1 : Option Addr) (c1 : Nat) (A2 : Option Addr) (c2 : Nat) (A3 : Option Addr) (c3 : Nat) (w : World)
    (hA : Lies w w.heap.size 3 A n (ec es)) (hnc : n ≤ c) (hn : n ≤ maxLen) (hS : StL w w.heap.size S A1 c1 A2 c2 A3 c3) (hr : rightB N es p s l q S = true) (h40 : ¬ S.step = 40) :
    Calls Tryz.prog 59 #[.agg #[.int .i64 N, .slice A n c], .agg #[.int .i64 p, .int .i64 s, .int .i64 l, .int .i64 q], .agg #[.int .i64 S.step, .slice A1 S.vals.length c1, .slice A2 S.rest.length c2, .slice A3 S.inn.length c3]] w (StPost (superR N es p s l q S) w) := by
  have mixed : Tryz.prog.follows .mixedOrders = true := by kernel_rfl
  obtain ⟨hj, ⟨hs0, hs1⟩, hv, hrr, hm⟩ := right_of hr
  obtain ⟨hN1, hN2⟩ := jchk_N hj
  have hwr : IntKind.i64.wrap (S.step + 1) = S.step + 1 := by rw [IntKind.wrap_i64]; omega
  obtain ⟨w4, hw4⟩ : ∃ w4, w4 = (((w.alloc (.cells #[.int .i64 N, .slice A n c] 27)).alloc (.cells #[.int .i64 p, .int .i64 s, .int .i64 l, .int .i64 q] 23)).alloc (.cells #[.int .i64 S.step, .slice A1 S.vals.length c1, .slice A2 S.rest.length c2, .slice A3 S.inn.length c3] 39)).alloc (.cells #[.int .i64 0, .slice none 0 0, .slice none 0 0, .slice none 0 0] 39) := ⟨_, rfl⟩
  have hbs : Bs w N A n c p s l q S A1 c1 A2 c2 A3 c3 w4 := by rw [hw4]; exact (Bs.init w N A n c p s l q S A1 c1 A2 c2 A3 c3).alloc _
  have H4 := Lib.hid (fun (W : World) (hb : Below w4.heap.size w4 W) => fourth w _ _ _ _ W (by rw [hw4] at hb; exact hb))
  have HBS := Lib.hid hbs
  have HS := Lib.hid hS
  have HA := Lib.hid hA
  have q0 : w4.drew.cell? ⟨w.heap.size + 1 + 1, 0, none⟩ = some (.int .i64 S.step) ∧ w4.drew.cell? ⟨w.heap.size + 1 + 1, 1, none⟩ = some (.slice A1 S.vals.length c1) ∧ w4.drew.cell? ⟨w.heap.size + 1 + 1, 2, none⟩ = some (.slice A2 S.rest.length c2) ∧ Below w4.heap.size w4 w4.drew := ⟨hbs.s0, hbs.s1, hbs.s2, (Below.refl _ _).drew⟩
  have HCV := Lib.hid (fun (W : World) (hb : Below w4.heap.size w4 W) => clone_v A1 c1 S.vals W ((hS.v.next hbs.x.bl).next hb) hS.ok.lv)
  have HCR := Lib.hid (fun (W : World) (hb : Below w4.heap.size w4 W) => clone_r A2 c2 S.rest W ((hS.r.next hbs.x.bl).next hb) hS.ok.lr)
  have hq : ∀ (W W' : World), (W.cell? ⟨w.heap.size + 1 + 1, 0, none⟩ = some (.int .i64 S.step) ∧ W.cell? ⟨w.heap.size + 1 + 1, 1, none⟩ = some (.slice A1 S.vals.length c1) ∧ W.cell? ⟨w.heap.size + 1 + 1, 2, none⟩ = some (.slice A2 S.rest.length c2) ∧ Below w4.heap.size w4 W) → Below W.heap.size W W' →
      (W'.cell? ⟨w.heap.size + 1 + 1, 0, none⟩ = some (.int .i64 S.step) ∧ W'.cell? ⟨w.heap.size + 1 + 1, 1, none⟩ = some (.slice A1 S.vals.length c1) ∧ W'.cell? ⟨w.heap.size + 1 + 1, 2, none⟩ = some (.slice A2 S.rest.length c2) ∧ Below w4.heap.size w4 W') := by
    intro W W' h hb
    have hl : w.heap.size + 1 + 1 < W.heap.size := Nat.lt_of_lt_of_le (Nat.lt_of_lt_of_le (Nat.lt_succ_self _) hbs.z) h.2.2.2.size
    exact ⟨(hb.cell (p := ⟨_, 0, none⟩) hl).trans h.1, (hb.cell (p := ⟨_, 1, none⟩) hl).trans h.2.1, (hb.cell (p := ⟨_, 2, none⟩) hl).trans h.2.2.1, h.2.2.2.trans (hb.mono h.2.2.2.size)⟩
  have HQ := Lib.hid hq
  have HBA := Lib.hid (show Below w4.drew.heap.size w4.drew (w4.alloc (.cells #[.int .i64 0, .slice none 0 0, .slice none 0 0, .slice none 0 0] 39)).drew from ⟨rfl, rfl, rfl, (below_alloc w4 _).size, (below_alloc w4 _).block⟩)
  have HQ2 := Lib.hid (show ∀ (W W' : World), (W.cell? ⟨w.heap.size + 1 + 1, 0, none⟩ = some (.int .i64 S.step) ∧ W.cell? ⟨w.heap.size + 1 + 1, 1, none⟩ = some (.slice A1 S.vals.length c1) ∧ W.cell? ⟨w.heap.size + 1 + 1, 2, none⟩ = some (.slice A2 S.rest.length c2) ∧ Below w4.heap.size w4 W) → Below w4.heap.size W W' →
      (W'.cell? ⟨w.heap.size + 1 + 1, 0, none⟩ = some (.int .i64 S.step) ∧ W'.cell? ⟨w.heap.size + 1 + 1, 1, none⟩ = some (.slice A1 S.vals.length c1) ∧ W'.cell? ⟨w.heap.size + 1 + 1, 2, none⟩ = some (.slice A2 S.rest.length c2) ∧ Below w4.heap.size w4 W') by
    intro W W' h hb
    have hl : w.heap.size + 1 + 1 < w4.heap.size := Nat.lt_of_lt_of_le (Nat.lt_succ_self _) hbs.z
    exact ⟨(hb.cell (p := ⟨_, 0, none⟩) hl).trans h.1, (hb.cell (p := ⟨_, 1, none⟩) hl).trans h.2.1, (hb.cell (p := ⟨_, 2, none⟩) hl).trans h.2.2.1, h.2.2.2.trans hb⟩)
  clear hq hbs hS hA hr
  go_enter Tryz.func59, Tryz.ntmps59
  go_wp2_with fail
  go_step3
  go_upto_region 1 with fail
  rw [← hw4]
  clear hw4
  have HN0 := Lib.hid (show S.rest.length = S.vals.length by omega)
  have HPOS := Lib.hid (show 0 < S.vals.length by omega)
  have HV := Lib.hid (show S.vals.length = N.toNat by omega)
  have HNV := Lib.hid hv
  clear hv hrr
  go_cut [8] (fun s8 W => ∃ bn gV cV gR cR, s8 = .pointer (some ⟨bn, 0, none⟩) ∧ Sp w4 bn (S.step + 1) gV cV gR cR S.vals.length S.vals S.rest W)
  case first =>
    go_region_held3 (fun w' => w'.cell? ⟨w.heap.size + 1 + 1, 0, none⟩ = some (.int .i64 S.step) ∧ w'.cell? ⟨w.heap.size + 1 + 1, 1, none⟩ = some (.slice A1 S.vals.length c1) ∧ w'.cell? ⟨w.heap.size + 1 + 1, 2, none⟩ = some (.slice A2 S.rest.length c2) ∧ Below w4.heap.size w4 w')
      (first | exact q2 | exact q1 | exact q0 | exact HQ.out _ _ q0 HBA.out | exact HQ.out _ _ q2 (below_alloc _ _) | exact HQ.out _ _ q1 (below_alloc _ _) | exact HQ.out _ _ q0 (below_alloc _ _) | exact HQ2.out _ _ q2 (((((Below.refl _ _).setCell (p := ⟨w5.heap.size, 0, none⟩) q1.2.2.2.size _).setCell (p := ⟨w5.heap.size, 1, none⟩) q1.2.2.2.size _).setCell (p := ⟨w5.heap.size, 2, none⟩) q1.2.2.2.size _).setCell (p := ⟨w5.heap.size, 3, none⟩) q1.2.2.2.size _) | exact HQ2.out _ _ q2 (((((Below.refl _ _).setCell (p := ⟨w4.heap.size, 0, none⟩) (Nat.le_refl _) _).setCell (p := ⟨w4.heap.size, 1, none⟩) (Nat.le_refl _) _).setCell (p := ⟨w4.heap.size, 2, none⟩) (Nat.le_refl _) _).setCell (p := ⟨w4.heap.size, 3, none⟩) (Nat.le_refl _) _) | fail)
      (first | ((go_at_call 46); (with_reducible refine (HCV.out _ q0.2.2.2).mono ?_); rintro e w5 ⟨A5, c5, rfl, ho5, hb5⟩; have q1 := HQ.out _ _ q0 hb5) | ((go_at_call 46); (with_reducible refine (HCV.out _ (HQ.out _ _ q0 HBA.out).2.2.2).mono ?_); rintro e w5 ⟨A5, c5, rfl, ho5, hb5⟩; have q1 := HQ.out _ _ (HQ.out _ _ q0 HBA.out) hb5; have z5 := (hb5.block w4.heap.size (by simp)).trans (heap_alloc_new w4 _)) | ((go_at_call 47); (with_reducible refine (HCR.out _ q1.2.2.2).mono ?_); rintro e w6 ⟨A6, c6, rfl, ho6, hb6⟩; have q2 := HQ.out _ _ q1 hb6; have z6 := (hb6.block w4.heap.size (lt_of_block z5)).trans z5; have r0 := cell_of_row w6 _ 0 _ 39 (0, 0) z6; have f0 := unfrozen z6 0; have r1 := cell_of_row w6 _ 1 _ 39 (0, 0) z6; have f1 := unfrozen z6 1; have r2 := cell_of_row w6 _ 2 _ 39 (0, 0) z6; have f2 := unfrozen z6 2; have r3 := cell_of_row w6 _ 3 _ 39 (0, 0) z6; have f3 := unfrozen z6 3) | ((go_at_call 47); (with_reducible refine (HCR.out _ q1.2.2.2).mono ?_); rintro e w6 ⟨A6, c6, rfl, ho6, hb6⟩; have q2 := HQ.out _ _ q1 hb6) | ((go_at_call 47); (with_reducible refine (HCR.out _ (HQ.out _ _ q1 (below_alloc _ _)).2.2.2).mono ?_); rintro e w6 ⟨A6, c6, rfl, ho6, hb6⟩; have q2 := HQ.out _ _ (HQ.out _ _ q1 (below_alloc _ _)) hb6; have z6 := (hb6.block w5.heap.size (by simp)).trans (heap_alloc_new w5 _); have r0 := cell_of_row w6 _ 0 _ 39 (0, 0) z6; have f0 := unfrozen z6 0; have r1 := cell_of_row w6 _ 1 _ 39 (0, 0) z6; have f1 := unfrozen z6 1; have r2 := cell_of_row w6 _ 2 _ 39 (0, 0) z6; have f2 := unfrozen z6 2; have r3 := cell_of_row w6 _ 3 _ 39 (0, 0) z6; have f3 := unfrozen z6 3))
    · obtain ⟨gV, _, rfl, _⟩ := own_some1 ho5 HPOS.out
      obtain ⟨gR, _, rfl, _⟩ := own_some1 ho6 (by rw [HN0.out]; exact HPOS.out)
      go_wp2_with fail
      go_meet
      rw [HN0.out] at ho6 ⊢
      exact ⟨_, gV, c5, gR, c6, rfl, sp_new q2.2.2.2 (own_next ho5 hb6) (ho6.lower q1.2.2.2.size)⟩
    · obtain ⟨gV, _, rfl, _⟩ := own_some1 ho5 HPOS.out
      obtain ⟨gR, _, rfl, _⟩ := own_some1 ho6 (by rw [HN0.out]; exact HPOS.out)
      go_wp2_with fail
      go_meet
      rw [HN0.out] at ho6 ⊢
      exact ⟨_, gV, c5, gR, c6, rfl, sp_old q2.2.2.2 (own_next (own_next ho5 (below_alloc _ _)) hb6) (ho6.lower (Nat.le_trans q1.2.2.2.size (by simp))) z6 q1.2.2.2.size⟩
    · obtain ⟨gV, _, rfl, _⟩ := own_some1 ho5 HPOS.out
      obtain ⟨gR, _, rfl, _⟩ := own_some1 ho6 (by rw [HN0.out]; exact HPOS.out)
      go_wp2_with fail
      go_meet
      rw [HN0.out] at ho6 ⊢
      exact ⟨_, gV, c5, gR, c6, rfl, sp_old q2.2.2.2 (own_next (ho5.lower (by simp)) hb6) (ho6.lower q1.2.2.2.size) z6 (Nat.le_refl _)⟩
  case rest =>
    obtain ⟨bn, gV, cV, gR, cR, rfl, hsp⟩ := hcut
    clear HQ HQ2 HBA HCV HCR q0
    have HSP := Lib.hid hsp
    have g0 := (HBS.out.next hsp.bl).x.g0
    clear hsp
    go_wp2_with fail
    go_step3
    go_wp2_with fail
    obtain ⟨i0, hi0, hz0, hzs, hzb⟩ := info_parts (show (Tryz.prog.info? 118).map (fun i => (i.zero, i.size, i.bytes)) = some (some (.agg #[.int .i64 0, .int .i64 0]), 2, 16) by kernel_rfl)
    have HI0 := Lib.hid hi0
    have HZ0 := Lib.hid hz0
    have HZS := Lib.hid hzs
    have HZB := Lib.hid hzb
    clear hi0 hz0 hzs hzb
    obtain ⟨T, hT⟩ : ∃ T, T = turnS N es p s l q S := ⟨_, rfl⟩
    have HTT := Lib.hid hT
    clear hT
    go_loopw [9, 31] (fun o i W => Sp6Rel w4 bn (S.step + 1) gV cV gR cR S.vals.length T S o i W) (fun o i W => S.vals.length - (intOf i).toNat)
    case atStart => exact ⟨0, none, 0, rfl, Nat.zero_le _, rfl, World.ownsRow_nil _ _ _ _, HSP.out, rfl⟩
    case round =>
      obtain ⟨k, AS, cS, rfl, hk, rfl, HO, HSQ, HE⟩ := hrel
      clear HSP g0
      have HBW := Lib.hid (HBS.out.next HSQ.out.bl)
      by_cases hkv : k < S.vals.length
      · have hkr : k < S.rest.length := by rw [HN0.out]; exact hkv
        have hkN : (k : Int) < N := by have := HNV.out; omega
        have hkV : (k : Int) < (S.vals.length : Int) := by omega
        have hkR : (k : Int) < (S.rest.length : Int) := by omega
        have s3 := HBW.out.s3
        obtain ⟨ad1, rfl, hadb1, _⟩ := HS.out.v.vs k hkv
        obtain ⟨ad2, rfl, hadb2, _⟩ := HS.out.r.rs k hkr
        have HF3 := Lib.hid (show ∀ W : World, Below w4.heap.size w4 W → W.cell? ⟨w.heap.size, 0, none⟩ = some (.int .i64 N) ∧ W.cell? ⟨w.heap.size, 1, none⟩ = some (.slice A n c) ∧ W.cell? ⟨w.heap.size + 1, 0, none⟩ = some (.int .i64 p) ∧ W.cell? ⟨w.heap.size + 1, 1, none⟩ = some (.int .i64 s) ∧ W.cell? ⟨w.heap.size + 1, 2, none⟩ = some (.int .i64 l) ∧ W.cell? ⟨w.heap.size + 1, 3, none⟩ = some (.int .i64 q) ∧ W.cell? ⟨w.heap.size + 1 + 1, 0, none⟩ = some (.int .i64 S.step) ∧ W.cell? ⟨w.heap.size + 1 + 1, 1, none⟩ = some (.slice (some ad1) S.vals.length c1) ∧ W.cell? (ad1.add k) = some (.int .i64 (vAt S.vals k)) ∧ Below w4.heap.size w4 W by
          intro W hb
          have h := HBS.out.next hb
          obtain ⟨a, ea, _, hc⟩ := (HS.out.v.next h.x.bl).vs k hkv
          injection ea with ea
          subst ea
          exact ⟨h.x.g0, h.x.g1, h.x.j0, h.x.j1, h.x.j2, h.x.j3, h.s0, h.s1, hc, hb⟩)
        go_wp2_with fail
        refine (at_any A3 S.inn.length c3 S.inn k _ (HS.out.m.next HBW.out.x.bl) HS.out.ok.lm).mono ?_
        rintro e w1 ⟨rfl, hb1⟩
        have hsp1 := HSQ.out.next hb1
        have HBW1 := Lib.hid (HBS.out.next hsp1.bl)
        have s2 := HBW1.out.s2
        obtain ⟨_, ea, _, c2k⟩ := (HS.out.r.next HBW1.out.x.bl).rs k hkr
        injection ea with ea
        subst ea
        cases hrk : rAt S.rest k with
        | true =>
          rw [hrk] at c2k
          cases hbk : atB S.inn k with
          | false =>
            have HT := Lib.hid (show T k = (vAt S.vals k, [], true, 0) by rw [HTT.out]; unfold turnS; rw [hrk, hbk]; rfl)
            have HER := Lib.hid (show errL T (k + 1) = 0 from firstE_ok HE.out (by show (T k).2.2.2 = 0; rw [HT.out]))
            have HSE := Lib.hid (show sentL T (k + 1) = sentL T k by rw [sentL_succ, HT.out]; simp)
            have HSP1 := Lib.hid hsp1
            rw [vkeep hkv (by rw [HT.out]), rkeep hkr (by rw [HT.out]; exact hrk.symm)] at HSP1
            have HO1 := Lib.hid (own_next HO.out hb1)
            clear hsp1 hb1
            go_wp2_with fail
            go_roundw
            case rel => exact ⟨k + 1, AS, cS, by go_num, by omega, by rw [HSE.out], by rw [HSE.out]; exact HO1.out, HSP1.out, HER.out⟩
            case measure => simp [intOf]; omega
          | true =>
            obtain ⟨t, ht⟩ : ∃ t, t = T k := ⟨_, rfl⟩
            have HT := Lib.hid ht
            have HTR := Lib.hid (show turnR N es p s l q S.step k (vAt S.vals k) (atV S.inn k) (atB S.inn k) = t by rw [ht, HTT.out]; unfold turnS; rw [hrk, hbk]; rfl)
            rw [hbk] at HTR
            clear ht
            have HTU := Lib.hid (fun (W : World) (hb : Below w4.heap.size w4 W) => turn_any N A n c es p s l q S.step k (vAt S.vals k) (atV S.inn k) true W (HA.out.next (HBS.out.next hb).x.bl) hnc hn (HS.out.ok.vAt k) (atV_bd HS.out.ok.m _))
            rw [HTR.out] at HTU
            have q0 := HF3.out w1.drew (hsp1.bl.drew)
            have HSP1 := Lib.hid hsp1
            have HO1 := Lib.hid (own_next HO.out hb1)
            clear hsp1 hb1
            go_wp2_with fail
            clear c2k s2 s3
            go_region_held3 (fun w' => w'.cell? ⟨w.heap.size, 0, none⟩ = some (.int .i64 N) ∧ w'.cell? ⟨w.heap.size, 1, none⟩ = some (.slice A n c) ∧ w'.cell? ⟨w.heap.size + 1, 0, none⟩ = some (.int .i64 p) ∧ w'.cell? ⟨w.heap.size + 1, 1, none⟩ = some (.int .i64 s) ∧ w'.cell? ⟨w.heap.size + 1, 2, none⟩ = some (.int .i64 l) ∧ w'.cell? ⟨w.heap.size + 1, 3, none⟩ = some (.int .i64 q) ∧ w'.cell? ⟨w.heap.size + 1 + 1, 0, none⟩ = some (.int .i64 S.step) ∧ w'.cell? ⟨w.heap.size + 1 + 1, 1, none⟩ = some (.slice (some ad1) S.vals.length c1) ∧ w'.cell? (ad1.add k) = some (.int .i64 (vAt S.vals k)) ∧ Below w4.heap.size w4 w')
              (first | exact q1 | exact q0)
              (first | ((go_at_call 83); (with_reducible refine (HTU.out _ q0.2.2.2.2.2.2.2.2.2).mono ?_); rintro e w2 ⟨hb2, AT, cT, rfl, hoT⟩; have q1 := HF3.out w2 (HSP1.out.bl.drew.trans (hb2.mono HSP1.out.bl.size))))
            have HSP2 := Lib.hid (show Sp w4 bn (S.step + 1) gV cV gR cR S.vals.length (valsL T k ++ S.vals.drop k) (restL T k ++ S.rest.drop k) w2 from HSP1.out.next (below_of_drew hb2))
            have HO2 := Lib.hid (own_next HO1.out (below_of_drew hb2))
            have HOT := Lib.hid (hoT.lower (base' := w4.heap.size) (Nat.le_trans HSP1.out.bl.size (Nat.le_refl _)))
            clear q0 q1 HO1 HSP1 hb2 hoT HTU
            obtain ⟨tv, tm, tb, te⟩ := t
            dsimp only at HOT HT ⊢
            by_cases he : te = 0
            · subst he
              have HER := Lib.hid (show errL T (k + 1) = 0 from firstE_ok HE.out (by show (T k).2.2.2 = 0; rw [← HT.out]))
              have HSE := Lib.hid (show sentL T (k + 1) = sentL T k ++ tm by rw [sentL_succ, ← HT.out])
              have HSP3 := Lib.hid (HSP2.out.set k tv tb)
              rw [show (valsL T k ++ S.vals.drop k).set k tv = valsL T (k + 1) ++ S.vals.drop (k + 1) by (have := vset (T := T) hkv; rw [← HT.out] at this; exact this), show (restL T k ++ S.rest.drop k).set k tb = restL T (k + 1) ++ S.rest.drop (k + 1) by (have := rset (T := T) hkr; rw [← HT.out] at this; exact this)] at HSP3
              have HO3 := Lib.hid (HSP2.out.own HO2.out k tv tb)
              have b1 : w2.cell? ⟨bn, 1, none⟩ = some (.slice (some ⟨gV, 0, none⟩) S.vals.length cV) := cell_of_row w2 bn 1 _ 39 (0, 0) HSP2.out.nb
              have b2 : w2.cell? ⟨bn, 2, none⟩ = some (.slice (some ⟨gR, 0, none⟩) S.vals.length cR) := cell_of_row w2 bn 2 _ 39 (0, 0) HSP2.out.nb
              obtain ⟨n1, n2, n3, n4, n5⟩ := HSP2.out.gr
              obtain ⟨x0, hx0⟩ : ∃ x0, w2.cell? ⟨gV, k, none⟩ = some x0 := ⟨_, (HSP2.out.v.cellAt k (by omega)).trans (vc_at _ k (by simp [valsL_len]; omega))⟩
              obtain ⟨y0, hy0⟩ : ∃ y0, w2.cell? ⟨gR, k, none⟩ = some y0 := ⟨_, (HSP2.out.r.cellAt k (by omega)).trans (rc_at _ k (by simp [restL_len]; omega))⟩
              have fV := HSP2.out.v.frozenAt k
              have fR := HSP2.out.r.frozenAt k
              have hy1 : (w2.setCell ⟨gV, k, none⟩ (.int .i64 tv)).cell? ⟨gR, k, none⟩ = some y0 := (World.cell?_setCell_other _ _ _ _ (by intro e; injection e with e; first | exact n1 e | exact n1 e.symm)).trans hy0
              have b2' : (w2.setCell ⟨gV, k, none⟩ (.int .i64 tv)).cell? ⟨bn, 2, none⟩ = some (.slice (some ⟨gR, 0, none⟩) S.vals.length cR) := (World.cell?_setCell_other _ _ _ _ (by intro e; injection e with e; first | exact n2 e | exact n2 e.symm)).trans b2
              have fR1 := (ownsRow_setCell_other HSP2.out.r (a := ⟨gV, k, none⟩) (fun e => n1 (by simpa [Value.ownBlock] using e.symm)) (.int .i64 tv)).frozenAt k
              clear n1 n2 n3 n4 n5
              go_wp2_with fail
              go_region
              have HOT3 := Lib.hid (HSP2.out.own HOT.out k tv tb)
              clear hx0 hy0 fV fR hy1 fR1 b1 b2 b2' HSP2 HO2 HOT
              have HSP4 := Lib.hid (HSP3.out.next (W' := ((w2.setCell ⟨gV, k, none⟩ (.int .i64 tv)).setCell ⟨gR, k, none⟩ (.bool tb)).drew) ⟨rfl, rfl, rfl, Nat.le_refl _, fun _ _ => rfl⟩)
              have HO4 := Lib.hid (own_next (w' := ((w2.setCell ⟨gV, k, none⟩ (.int .i64 tv)).setCell ⟨gR, k, none⟩ (.bool tb)).drew) HO3.out ⟨rfl, rfl, rfl, Nat.le_refl _, fun _ _ => rfl⟩)
              have HOT4 := Lib.hid (own_next (w' := ((w2.setCell ⟨gV, k, none⟩ (.int .i64 tv)).setCell ⟨gR, k, none⟩ (.bool tb)).drew) HOT3.out ⟨rfl, rfl, rfl, Nat.le_refl _, fun _ _ => rfl⟩)
              have HSL := Lib.hid (show (sentL T k).length ≤ 80 * k from sentL_len T (fun v => by rw [HTT.out]; exact turnS_len ..) k)
              have HML := Lib.hid (show tm.length ≤ 80 by have := turnS_len N es p s l q S k; rw [← HTT.out, ← HT.out] at this; exact this)
              have hk24 : k < 24 := by have := HNV.out; omega
              clear HSP3 HO3 HOT3
              generalize ((w2.setCell ⟨gV, k, none⟩ (.int .i64 tv)).setCell ⟨gR, k, none⟩ (.bool tb)).drew = W3 at HSP4 HO4 HOT4 ⊢
              go_wp2_with (at_builtin; go_must (refine wpList_app2 _ rfl (.tmp 82) (.tmp 83) 37 rfl w4.heap.size 118 i0 _ 2 16 Tryz.underlying37 HI0.out HZ0.out HZS.out HZB.out rfl (by decide) AS (sentL T k).length cS (mc (sentL T k)) rfl HO4.out W3.heap.size AT tm.length cT (mc tm) rfl (Lies.of_own HOT4.out) (mc_one _) (sentL T k ++ tm).length (mc (sentL T k ++ tm)) (by rw [List.length_append]) (by rw [mc_append]) (by have := HSL.out; have := HML.out; rw [List.length_append]; unfold maxLen; omega) (by have := HSL.out; have := HML.out; rw [List.length_append]; omega) HSP4.out.bl.size ?_))
              intro A5 c5 w5 ho5 hb5 hg5
              have HSP5 := Lib.hid (HSP4.out.grown HO4.out hg5)
              have HO5 := Lib.hid ho5
              clear ho5 hb5 hg5 HSP4 HO4 HOT4
              go_wp2_with fail
              go_roundw
              case rel => exact ⟨k + 1, A5, c5, by go_num, by omega, by rw [HSE.out, List.length_append], by rw [HSE.out, List.length_append]; exact HO5.out, HSP5.out, HER.out⟩
              case measure => simp [intOf]; omega
            · have HR := Lib.hid (show superR N es p s l q S = (noSt, te) by
                have e1 : errL T N.toNat = te := (firstE_bad (f := fun v => (T v).2.2.2) HE.out (by rw [← HV.out]; exact hkv) (by show ¬ (T k).2.2.2 = 0; rw [← HT.out]; exact he)).trans (by show (T k).2.2.2 = te; rw [← HT.out])
                unfold superR; rw [← HTT.out, e1, if_neg he])
              have he1 : (te != 0) = true := by simpa using he
              have z2 := H4.out w2 HSP2.out.bl
              have r0 := cell_of_row w2 _ 0 _ 39 (0, 0) z2
              have f0 := unfrozen z2 0
              have r1 := cell_of_row w2 _ 1 _ 39 (0, 0) z2
              have f1 := unfrozen z2 1
              have r2 := cell_of_row w2 _ 2 _ 39 (0, 0) z2
              have f2 := unfrozen z2 2
              have r3 := cell_of_row w2 _ 3 _ 39 (0, 0) z2
              have f3 := unfrozen z2 3
              have HB2 := Lib.hid (HBS.out.next HSP2.out.bl).x.bl
              clear z2 he HSP2 HO2 HOT
              go_wp2_with fail
              refine bodyPost_ret (v := .tuple #[.agg #[.int .i64 0, .slice none 0 0, .slice none 0 0, .slice none 0 0], .int .i64 te]) (by simp [results, Tryz.results59, go_sem, r0, r1, r2, r3]) rfl ?_
              exact st_no HR.out ((((HB2.out.setCell (by simp; omega) _).setCell (by simp; omega) _).setCell (by simp; omega) _).setCell (by simp; omega) _)
        | false =>
          rw [hrk] at c2k
          obtain ⟨t, ht⟩ : ∃ t, t = T k := ⟨_, rfl⟩
          have HT := Lib.hid ht
          have HTR := Lib.hid (show turnR N es p s l q S.step k (vAt S.vals k) (atV S.inn k) (atB S.inn k) = t by rw [ht, HTT.out]; unfold turnS; rw [hrk]; rfl)
          clear ht
          have HTU := Lib.hid (fun (W : World) (hb : Below w4.heap.size w4 W) => turn_any N A n c es p s l q S.step k (vAt S.vals k) (atV S.inn k) (atB S.inn k) W (HA.out.next (HBS.out.next hb).x.bl) hnc hn (HS.out.ok.vAt k) (atV_bd HS.out.ok.m _))
          rw [HTR.out] at HTU
          have q0 := HF3.out w1.drew (hsp1.bl.drew)
          have HSP1 := Lib.hid hsp1
          have HO1 := Lib.hid (own_next HO.out hb1)
          clear hsp1 hb1
          go_wp2_with fail
          clear c2k s2 s3
          go_region_held3 (fun w' => w'.cell? ⟨w.heap.size, 0, none⟩ = some (.int .i64 N) ∧ w'.cell? ⟨w.heap.size, 1, none⟩ = some (.slice A n c) ∧ w'.cell? ⟨w.heap.size + 1, 0, none⟩ = some (.int .i64 p) ∧ w'.cell? ⟨w.heap.size + 1, 1, none⟩ = some (.int .i64 s) ∧ w'.cell? ⟨w.heap.size + 1, 2, none⟩ = some (.int .i64 l) ∧ w'.cell? ⟨w.heap.size + 1, 3, none⟩ = some (.int .i64 q) ∧ w'.cell? ⟨w.heap.size + 1 + 1, 0, none⟩ = some (.int .i64 S.step) ∧ w'.cell? ⟨w.heap.size + 1 + 1, 1, none⟩ = some (.slice (some ad1) S.vals.length c1) ∧ w'.cell? (ad1.add k) = some (.int .i64 (vAt S.vals k)) ∧ Below w4.heap.size w4 w')
            (first | exact q1 | exact q0)
            (first | ((go_at_call 83); (with_reducible refine (HTU.out _ q0.2.2.2.2.2.2.2.2.2).mono ?_); rintro e w2 ⟨hb2, AT, cT, rfl, hoT⟩; have q1 := HF3.out w2 (HSP1.out.bl.drew.trans (hb2.mono HSP1.out.bl.size))))
          have HSP2 := Lib.hid (show Sp w4 bn (S.step + 1) gV cV gR cR S.vals.length (valsL T k ++ S.vals.drop k) (restL T k ++ S.rest.drop k) w2 from HSP1.out.next (below_of_drew hb2))
          have HO2 := Lib.hid (own_next HO1.out (below_of_drew hb2))
          have HOT := Lib.hid (hoT.lower (base' := w4.heap.size) (Nat.le_trans HSP1.out.bl.size (Nat.le_refl _)))
          clear q0 q1 HO1 HSP1 hb2 hoT HTU
          obtain ⟨tv, tm, tb, te⟩ := t
          dsimp only at HOT HT ⊢
          by_cases he : te = 0
          · subst he
            have HER := Lib.hid (show errL T (k + 1) = 0 from firstE_ok HE.out (by show (T k).2.2.2 = 0; rw [← HT.out]))
            have HSE := Lib.hid (show sentL T (k + 1) = sentL T k ++ tm by rw [sentL_succ, ← HT.out])
            have HSP3 := Lib.hid (HSP2.out.set k tv tb)
            rw [show (valsL T k ++ S.vals.drop k).set k tv = valsL T (k + 1) ++ S.vals.drop (k + 1) by (have := vset (T := T) hkv; rw [← HT.out] at this; exact this), show (restL T k ++ S.rest.drop k).set k tb = restL T (k + 1) ++ S.rest.drop (k + 1) by (have := rset (T := T) hkr; rw [← HT.out] at this; exact this)] at HSP3
            have HO3 := Lib.hid (HSP2.out.own HO2.out k tv tb)
            have b1 : w2.cell? ⟨bn, 1, none⟩ = some (.slice (some ⟨gV, 0, none⟩) S.vals.length cV) := cell_of_row w2 bn 1 _ 39 (0, 0) HSP2.out.nb
            have b2 : w2.cell? ⟨bn, 2, none⟩ = some (.slice (some ⟨gR, 0, none⟩) S.vals.length cR) := cell_of_row w2 bn 2 _ 39 (0, 0) HSP2.out.nb
            obtain ⟨n1, n2, n3, n4, n5⟩ := HSP2.out.gr
            obtain ⟨x0, hx0⟩ : ∃ x0, w2.cell? ⟨gV, k, none⟩ = some x0 := ⟨_, (HSP2.out.v.cellAt k (by omega)).trans (vc_at _ k (by simp [valsL_len]; omega))⟩
            obtain ⟨y0, hy0⟩ : ∃ y0, w2.cell? ⟨gR, k, none⟩ = some y0 := ⟨_, (HSP2.out.r.cellAt k (by omega)).trans (rc_at _ k (by simp [restL_len]; omega))⟩
            have fV := HSP2.out.v.frozenAt k
            have fR := HSP2.out.r.frozenAt k
            have hy1 : (w2.setCell ⟨gV, k, none⟩ (.int .i64 tv)).cell? ⟨gR, k, none⟩ = some y0 := (World.cell?_setCell_other _ _ _ _ (by intro e; injection e with e; first | exact n1 e | exact n1 e.symm)).trans hy0
            have b2' : (w2.setCell ⟨gV, k, none⟩ (.int .i64 tv)).cell? ⟨bn, 2, none⟩ = some (.slice (some ⟨gR, 0, none⟩) S.vals.length cR) := (World.cell?_setCell_other _ _ _ _ (by intro e; injection e with e; first | exact n2 e | exact n2 e.symm)).trans b2
            have fR1 := (ownsRow_setCell_other HSP2.out.r (a := ⟨gV, k, none⟩) (fun e => n1 (by simpa [Value.ownBlock] using e.symm)) (.int .i64 tv)).frozenAt k
            clear n1 n2 n3 n4 n5
            go_wp2_with fail
            go_region
            have HOT3 := Lib.hid (HSP2.out.own HOT.out k tv tb)
            clear hx0 hy0 fV fR hy1 fR1 b1 b2 b2' HSP2 HO2 HOT
            have HSP4 := Lib.hid (HSP3.out.next (W' := ((w2.setCell ⟨gV, k, none⟩ (.int .i64 tv)).setCell ⟨gR, k, none⟩ (.bool tb)).drew) ⟨rfl, rfl, rfl, Nat.le_refl _, fun _ _ => rfl⟩)
            have HO4 := Lib.hid (own_next (w' := ((w2.setCell ⟨gV, k, none⟩ (.int .i64 tv)).setCell ⟨gR, k, none⟩ (.bool tb)).drew) HO3.out ⟨rfl, rfl, rfl, Nat.le_refl _, fun _ _ => rfl⟩)
            have HOT4 := Lib.hid (own_next (w' := ((w2.setCell ⟨gV, k, none⟩ (.int .i64 tv)).setCell ⟨gR, k, none⟩ (.bool tb)).drew) HOT3.out ⟨rfl, rfl, rfl, Nat.le_refl _, fun _ _ => rfl⟩)
            have HSL := Lib.hid (show (sentL T k).length ≤ 80 * k from sentL_len T (fun v => by rw [HTT.out]; exact turnS_len ..) k)
            have HML := Lib.hid (show tm.length ≤ 80 by have := turnS_len N es p s l q S k; rw [← HTT.out, ← HT.out] at this; exact this)
            have hk24 : k < 24 := by have := HNV.out; omega
            clear HSP3 HO3 HOT3
            generalize ((w2.setCell ⟨gV, k, none⟩ (.int .i64 tv)).setCell ⟨gR, k, none⟩ (.bool tb)).drew = W3 at HSP4 HO4 HOT4 ⊢
            go_wp2_with (at_builtin; go_must (refine wpList_app2 _ rfl (.tmp 82) (.tmp 83) 37 rfl w4.heap.size 118 i0 _ 2 16 Tryz.underlying37 HI0.out HZ0.out HZS.out HZB.out rfl (by decide) AS (sentL T k).length cS (mc (sentL T k)) rfl HO4.out W3.heap.size AT tm.length cT (mc tm) rfl (Lies.of_own HOT4.out) (mc_one _) (sentL T k ++ tm).length (mc (sentL T k ++ tm)) (by rw [List.length_append]) (by rw [mc_append]) (by have := HSL.out; have := HML.out; rw [List.length_append]; unfold maxLen; omega) (by have := HSL.out; have := HML.out; rw [List.length_append]; omega) HSP4.out.bl.size ?_))
            intro A5 c5 w5 ho5 hb5 hg5
            have HSP5 := Lib.hid (HSP4.out.grown HO4.out hg5)
            have HO5 := Lib.hid ho5
            clear ho5 hb5 hg5 HSP4 HO4 HOT4
            go_wp2_with fail
            go_roundw
            case rel => exact ⟨k + 1, A5, c5, by go_num, by omega, by rw [HSE.out, List.length_append], by rw [HSE.out, List.length_append]; exact HO5.out, HSP5.out, HER.out⟩
            case measure => simp [intOf]; omega
          · have HR := Lib.hid (show superR N es p s l q S = (noSt, te) by
              have e1 : errL T N.toNat = te := (firstE_bad (f := fun v => (T v).2.2.2) HE.out (by rw [← HV.out]; exact hkv) (by show ¬ (T k).2.2.2 = 0; rw [← HT.out]; exact he)).trans (by show (T k).2.2.2 = te; rw [← HT.out])
              unfold superR; rw [← HTT.out, e1, if_neg he])
            have he1 : (te != 0) = true := by simpa using he
            have z2 := H4.out w2 HSP2.out.bl
            have r0 := cell_of_row w2 _ 0 _ 39 (0, 0) z2
            have f0 := unfrozen z2 0
            have r1 := cell_of_row w2 _ 1 _ 39 (0, 0) z2
            have f1 := unfrozen z2 1
            have r2 := cell_of_row w2 _ 2 _ 39 (0, 0) z2
            have f2 := unfrozen z2 2
            have r3 := cell_of_row w2 _ 3 _ 39 (0, 0) z2
            have f3 := unfrozen z2 3
            have HB2 := Lib.hid (HBS.out.next HSP2.out.bl).x.bl
            clear z2 he HSP2 HO2 HOT
            go_wp2_with fail
            refine bodyPost_ret (v := .tuple #[.agg #[.int .i64 0, .slice none 0 0, .slice none 0 0, .slice none 0 0], .int .i64 te]) (by simp [results, Tryz.results59, go_sem, r0, r1, r2, r3]) rfl ?_
            exact st_no HR.out ((((HB2.out.setCell (by simp; omega) _).setCell (by simp; omega) _).setCell (by simp; omega) _).setCell (by simp; omega) _)
      · have hk' : k = S.vals.length := by omega
        subst hk'
        have hkN : ¬ ((S.vals.length : Int) < N) := by have := HNV.out; omega
        have HSL := Lib.hid (show (sentL T S.vals.length).length ≤ 80 * S.vals.length from sentL_len T (fun v => by rw [HTT.out]; exact turnS_len ..) _)
        have HBD := Lib.hid (show ∀ e ∈ sentL T S.vals.length, bd e.2 by rw [HTT.out]; exact sentL_bd HS.out.ok _)
        have hk24 : S.vals.length ≤ 24 := by have := HNV.out; omega
        have j0 := HBW.out.x.j0
        go_wp2_with fail
        refine (fdf_any p AS (sentL T S.vals.length).length cS (sentL T S.vals.length) _ (Lies.of_own HO.out) (by have := HSL.out; omega) HBD.out).mono ?_
        rintro e w6 ⟨AF, cF, rfl, hoF, hbF⟩
        have HSP6 := Lib.hid (HSQ.out.next hbF)
        have HOF := Lib.hid (hoF.lower (base' := w4.heap.size) HSQ.out.bl.size)
        have HB6 := Lib.hid (HBS.out.next HSP6.out.bl).x.bl
        have HFR := Lib.hid (show superR N es p s l q S = if fdC p (sentL T S.vals.length) = 0 then (⟨S.step + 1, valsL T S.vals.length, restL T S.vals.length, fdR p (sentL T S.vals.length)⟩, 0) else (noSt, fdC p (sentL T S.vals.length)) by
          unfold superR; rw [← HTT.out, ← HV.out, if_pos HE.out])
        have HF6 := Lib.hid (fdR_bd (p := p) HBD.out)
        clear hoF hbF j0 HSQ HO HBW hkN hkv
        by_cases hf : fdC p (sentL T S.vals.length) = 0
        · rw [hf]
          have HR := Lib.hid (HFR.out.trans (if_pos hf))
          clear hf HFR
          generalize fdR p (sentL T S.vals.length) = ms at *
          have nb := HSP6.out.nb
          have n0 := cell_of_row w6 bn 3 _ 39 (0, 0) nb
          have n1 := unfrozen nb 3
          have hz : (w6.setCell ⟨bn, 3, none⟩ (.slice AF ms.length cF)).heap[bn]? = some (.cells #[.int .i64 (S.step + 1), .slice (some ⟨gV, 0, none⟩) S.vals.length cV, .slice (some ⟨gR, 0, none⟩) S.vals.length cR, .slice AF ms.length cF] 39 (0, 0)) := set_heap nb _
          have hzr : (w6.setCell ⟨bn, 3, none⟩ (.slice AF ms.length cF)).heap[w.heap.size + 1 + 1 + 1]? = some (.cells #[.int .i64 0, .slice none 0 0, .slice none 0 0, .slice none 0 0] 39) := by
            rw [Below.heap_setCell _ _ _ _ (by have := HSP6.out.hbn; have := lt_of_block (H4.out w4 (Below.refl _ _)); simp; omega)]
            exact H4.out w6 HSP6.out.bl
          have HV7 := Lib.hid (ownsRow_setCell_other HSP6.out.v (a := ⟨bn, 3, none⟩) (own_ne HSP6.out.v nb (by decide)) (.slice AF ms.length cF))
          have HR7 := Lib.hid (ownsRow_setCell_other HSP6.out.r (a := ⟨bn, 3, none⟩) (own_ne HSP6.out.r nb (by decide)) (.slice AF ms.length cF))
          have HM7 := Lib.hid (ownsRow_setCell_other HOF.out (a := ⟨bn, 3, none⟩) (own_ne HOF.out nb (by decide)) (.slice AF ms.length cF))
          have HB7 := Lib.hid (HB6.out.setCell (p := ⟨bn, 3, none⟩) (Nat.le_trans HBS.out.x.bl.size HSP6.out.hbn) (.slice AF ms.length cF))
          have hlt4 := lt_of_block (H4.out w4 (Below.refl _ _))
          go_upto_region 18 with fail
          generalize w6.setCell ⟨bn, 3, none⟩ (.slice AF ms.length cF) = W7 at hz hzr HV7 HR7 HM7 HB7 ⊢
          have b0 := cell_of_row W7 bn 0 _ 39 (0, 0) hz
          have b1 := cell_of_row W7 bn 1 _ 39 (0, 0) hz
          have b2 := cell_of_row W7 bn 2 _ 39 (0, 0) hz
          have b3 := cell_of_row W7 bn 3 _ 39 (0, 0) hz
          have r0 := cell_of_row W7 _ 0 _ 39 (0, 0) hzr
          have f0 := unfrozen hzr 0
          have r1 := cell_of_row W7 _ 1 _ 39 (0, 0) hzr
          have f1 := unfrozen hzr 1
          have r2 := cell_of_row W7 _ 2 _ 39 (0, 0) hzr
          have f2 := unfrozen hzr 2
          have r3 := cell_of_row W7 _ 3 _ 39 (0, 0) hzr
          have f3 := unfrozen hzr 3
          clear nb n0 n1 hz hzr HSP6 HOF
          go_wp2_with fail
          refine bodyPost_ret (v := .tuple #[.agg #[.int .i64 (S.step + 1), .slice (some ⟨gV, 0, none⟩) S.vals.length cV, .slice (some ⟨gR, 0, none⟩) S.vals.length cR, .slice AF ms.length cF], .int .i64 0]) (by simp [results, Tryz.results59, go_sem, r0, r1, r2, r3]) rfl ?_
          rw [HR.out]
          refine ⟨(((HB7.out.setCell (by simp; omega) _).setCell (by simp; omega) _).setCell (by simp; omega) _).setCell (by simp; omega) _, some ⟨gV, 0, none⟩, cV, some ⟨gR, 0, none⟩, cR, AF, cF, by dsimp only; rw [valsL_len, restL_len], ?_, (Fr.own HV7.out).low HBS.out.x.bl.size, (Fr.own HR7.out).low HBS.out.x.bl.size, (Fr.own HM7.out).low HBS.out.x.bl.size⟩
          have hv8 := ownsRow_setCell_below (ownsRow_setCell_below (ownsRow_setCell_below (ownsRow_setCell_below HV7.out (a := ⟨w.heap.size + 1 + 1 + 1, 0, none⟩) hlt4 (.int .i64 (S.step + 1))) (a := ⟨w.heap.size + 1 + 1 + 1, 1, none⟩) hlt4 (.slice (some ⟨gV, 0, none⟩) S.vals.length cV)) (a := ⟨w.heap.size + 1 + 1 + 1, 2, none⟩) hlt4 (.slice (some ⟨gR, 0, none⟩) S.vals.length cR)) (a := ⟨w.heap.size + 1 + 1 + 1, 3, none⟩) hlt4 (.slice AF ms.length cF)
          have hr8 := ownsRow_setCell_below (ownsRow_setCell_below (ownsRow_setCell_below (ownsRow_setCell_below HR7.out (a := ⟨w.heap.size + 1 + 1 + 1, 0, none⟩) hlt4 (.int .i64 (S.step + 1))) (a := ⟨w.heap.size + 1 + 1 + 1, 1, none⟩) hlt4 (.slice (some ⟨gV, 0, none⟩) S.vals.length cV)) (a := ⟨w.heap.size + 1 + 1 + 1, 2, none⟩) hlt4 (.slice (some ⟨gR, 0, none⟩) S.vals.length cR)) (a := ⟨w.heap.size + 1 + 1 + 1, 3, none⟩) hlt4 (.slice AF ms.length cF)
          have hm8 := ownsRow_setCell_below (ownsRow_setCell_below (ownsRow_setCell_below (ownsRow_setCell_below HM7.out (a := ⟨w.heap.size + 1 + 1 + 1, 0, none⟩) hlt4 (.int .i64 (S.step + 1))) (a := ⟨w.heap.size + 1 + 1 + 1, 1, none⟩) hlt4 (.slice (some ⟨gV, 0, none⟩) S.vals.length cV)) (a := ⟨w.heap.size + 1 + 1 + 1, 2, none⟩) hlt4 (.slice (some ⟨gR, 0, none⟩) S.vals.length cR)) (a := ⟨w.heap.size + 1 + 1 + 1, 3, none⟩) hlt4 (.slice AF ms.length cF)
          have hok : Ok (superR N es p s l q S).1 := super_ok HS.out.ok hN2 hs1
          rw [HR.out] at hok
          refine ⟨?_, ?_, Lies.of_own hm8, ?_, ?_, own_cap hm8, hok⟩
          · dsimp only; rw [valsL_len]; have := Lies.of_own hv8; rw [List.drop_length, List.append_nil] at this; exact this
          · dsimp only; rw [restL_len]; have := Lies.of_own hr8; rw [← HN0.out, List.drop_length, List.append_nil, HN0.out] at this; exact this
          · dsimp only; rw [valsL_len]; exact own_cap hv8
          · dsimp only; rw [restL_len]; exact own_cap hr8
        · have HR := Lib.hid (HFR.out.trans (if_neg hf))
          have he1 : (fdC p (sentL T S.vals.length) != 0) = true := by simpa using hf
          have z2 := H4.out w6 HSP6.out.bl
          have r0 := cell_of_row w6 _ 0 _ 39 (0, 0) z2
          have f0 := unfrozen z2 0
          have r1 := cell_of_row w6 _ 1 _ 39 (0, 0) z2
          have f1 := unfrozen z2 1
          have r2 := cell_of_row w6 _ 2 _ 39 (0, 0) z2
          have f2 := unfrozen z2 2
          have r3 := cell_of_row w6 _ 3 _ 39 (0, 0) z2
          have f3 := unfrozen z2 3
          clear z2 hf HSP6 HOF
          generalize fdC p (sentL T S.vals.length) = te at *
          go_wp2_with fail
          refine bodyPost_ret (v := .tuple #[.agg #[.int .i64 0, .slice none 0 0, .slice none 0 0, .slice none 0 0], .int .i64 te]) (by simp [results, Tryz.results59, go_sem, r0, r1, r2, r3]) rfl ?_
          exact st_no HR.out ((((HB6.out.setCell (by simp; omega) _).setCell (by simp; omega) _).setCell (by simp; omega) _).setCell (by simp; omega) _)
section
variable {w : World} {S : St} {A1 : Option Addr} {c1 : Nat} {A2 : Option Addr} {c2 : Nat} {A3 : Option Addr} {c3 : Nat} {S' : St} {D1 : Option Addr} {d1 : Nat} {D2 : Option Addr} {d2 : Nat} {D3 : Option Addr} {d3 : Nat} {W W' : World}
end
end Go.Proofs.YtpgdddjjjfkneaaGreatDoor

