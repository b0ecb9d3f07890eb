import Derived.Test.YtpgdddjjjfkneaaGreatDoorWa
import Derived.Test.YtpgdddjjjfkneaaGreatDoorWkN
import Derived.Deep.RegionHeld3
import Derived.Deep.RegionLaw
import Derived.BigRegion
import Derived.WalkMore
import Derived.Deep.DeepCutAuto
/-
  The contract of work's superstep. No condition but that the numbers are of 62 bits and not too many, and the partition is right.
-/
namespace Go.Proofs.YtpgdddjjjfkneaaGreatDoor
open Go.ChangeShapes Go.WideShapes Go.ChangeAt Go.RowKit
set_option linter.unusedVariables false

theorem fifth (w : World) (o1 o2 o3 o4 o5 : Obj) (W : World) (hb : Below (((((w.alloc o1).alloc o2).alloc o3).alloc o4).alloc o5).heap.size (((((w.alloc o1).alloc o2).alloc o3).alloc o4).alloc o5) W) :
    W.heap[w.heap.size + 1 + 1 + 1]? = some o4 ∧ W.heap[w.heap.size + 1 + 1 + 1 + 1]? = some o5 := by
  constructor
  · rw [hb.block _ (by simp)]
    have e : (((w.alloc o1).alloc o2).alloc o3).heap.size = w.heap.size + 1 + 1 + 1 := by simp
    rw [heap_alloc_old _ _ (by simp), ← e]
    exact heap_alloc_new _ _
  · have e : ((((w.alloc o1).alloc o2).alloc o3).alloc o4).heap.size = w.heap.size + 1 + 1 + 1 + 1 := by simp
    rw [hb.block _ (by simp), ← e]
    exact heap_alloc_new _ _
theorem six {ls : List Le} (h : ls.length = 6) : ∃ x0 x1 x2 x3 x4 x5, ls = [x0, x1, x2, x3, x4, x5] := by
  match ls, h with
  | [a, b, c, d, e, f], _ => exact ⟨a, b, c, d, e, f, rfl⟩
theorem own_block {w w' : World} {b s n : Nat} {e : TypeId} {v : Value} {xs : List Value} (h : w.ownsRow b e s v n xs) (hk : ∀ g, b ≤ g → w'.heap[g]? = w.heap[g]?) : w'.ownsRow b e s v n xs := by
  refine ⟨h.1, ?_⟩
  rcases h.2 with h2 | ⟨g, cap, cur, hv, hb, hh, hr⟩
  · exact .inl h2
  · exact .inr ⟨g, cap, cur, hv, hb, (hk g hb).trans hh, hr⟩
theorem heap_drew8 (W : World) : W.drew.heap = W.heap := rfl
theorem back11 {wr w5 : World} {b3 b4 : Nat} (h3 : b3 < w5.heap.size) (h4 : b4 < w5.heap.size) (u0 u1 u2 u3 u4 u5 u6 u7 u8 u9 u10 : Value) (g : Nat) (hg : w5.heap.size ≤ g) : ((((((((((((wr.setCell ⟨b3, 0, none⟩ u0).setCell ⟨b3, 1, none⟩ u1).setCell ⟨b3, 2, none⟩ u2).setCell ⟨b3, 3, none⟩ u3).setCell ⟨b3, 4, none⟩ u4).setCell ⟨b4, 0, none⟩ u5).setCell ⟨b4, 1, none⟩ u6).setCell ⟨b4, 2, none⟩ u7).setCell ⟨b4, 3, none⟩ u8).setCell ⟨b4, 4, none⟩ u9).setCell ⟨b4, 5, none⟩ u10).drew).heap[g]? = wr.heap[g]? := by
  rw [heap_drew8]
  rw [Below.heap_setCell _ _ _ _ (fun e => by have e : g = b4 := e; omega), Below.heap_setCell _ _ _ _ (fun e => by have e : g = b4 := e; omega), Below.heap_setCell _ _ _ _ (fun e => by have e : g = b4 := e; omega), Below.heap_setCell _ _ _ _ (fun e => by have e : g = b4 := e; omega), Below.heap_setCell _ _ _ _ (fun e => by have e : g = b4 := e; omega), Below.heap_setCell _ _ _ _ (fun e => by have e : g = b4 := e; omega), Below.heap_setCell _ _ _ _ (fun e => by have e : g = b3 := e; omega), Below.heap_setCell _ _ _ _ (fun e => by have e : g = b3 := e; omega), Below.heap_setCell _ _ _ _ (fun e => by have e : g = b3 := e; omega), Below.heap_setCell _ _ _ _ (fun e => by have e : g = b3 := e; omega), Below.heap_setCell _ _ _ _ (fun e => by have e : g = b3 := e; omega)]
theorem ob_pack {wb : World} {bn : Nat} {P st : Int} {V : Option Addr} {cV : Nat} {R : Option Addr} {cR n : Nat} {vs : List Int} {rs : List Bool} {W : World} (h : Sq wb bn P st V cV R cR n vs rs W) :
    ∃ bs W0, bs = W.heap.size ∧ W0 = W.alloc (.cells #[.slice none 0 0, .slice none 0 0, .slice none 0 0, .slice none 0 0, .slice none 0 0, .slice none 0 0] 104) ∧ Sq wb bn P st V cV R cR n vs rs W0 ∧ Ob wb bs (List.replicate 6 noLe) [] W0 :=
  ⟨_, _, rfl, rfl, h.next (below_alloc _ _), Ob.start h.bl⟩
/-- What superstep answers. -/
def SuPost (N : Int) (es : List Ed) (p s l q P : Int) (S : St) (w : World) (r : Ending) (w' : World) : Prop :=
  Below w.heap.size w w' ∧ ((errL (tP N es p s l q (mkP P S)) S.vals.length = 0 ∧ ∃ V cV R cR ls, r = .returned (.tuple #[.agg #[.int .i64 P, .int .i64 (S.step + 1), .slice V S.vals.length cV, .slice R S.vals.length cR, .slice none 0 0], .agg (lcl ls).toArray, .int .i64 0]) ∧
      StL w' w'.heap.size (nextS N es p s l q P S) V cV R cR none 0 ∧ Fr w.heap.size V ∧ Fr w.heap.size R ∧ Bk q.toNat (doS N es p s l q (mkP P S)) ls ∧ ∀ e ∈ ls, Lies w' w'.heap.size 2 e.A e.ms.length (mc e.ms)) ∨
    (¬ errL (tP N es p s l q (mkP P S)) S.vals.length = 0 ∧ r = .returned (.tuple #[.agg #[.int .i64 0, .int .i64 0, .slice none 0 0, .slice none 0 0, .slice none 0 0], .agg #[.slice none 0 0, .slice none 0 0, .slice none 0 0, .slice none 0 0, .slice none 0 0, .slice none 0 0], .int .i64 (errL (tP N es p s l q (mkP P S)) S.vals.length)])))
def SuRel (wb : World) (bn bs : Nat) (P st : Int) (V : Option Addr) (cV : Nat) (R : Option Addr) (cR : Nat) (a : Nat) (T : Nat → Int × List Ms × Bool × Int) (S : St) (i : Value) (W : World) : Prop :=
  ∃ (k : Nat) (ls : List Le), i = .int .i64 k ∧ k ≤ S.vals.length ∧ Hid (Bk a (sentL T k) ls) ∧ Hid (Sq wb bn P st V cV R cR S.vals.length (valsL T k ++ S.vals.drop k) (restL T k ++ S.rest.drop k) W) ∧ Hid (Ob wb bs ls [] W) ∧ Hid (errL T k = 0)
def SiRel (wb : World) (bn bs : Nat) (P st : Int) (V : Option Addr) (cV : Nat) (R : Option Addr) (cR n : Nat) (vs : List Int) (rs : List Bool) (a : Nat) (l0 : List Ms) (t : Le) (i : Value) (W : World) : Prop :=
  ∃ (k : Nat) (ls : List Le), i = .int .i64 k ∧ k ≤ t.ms.length ∧ Hid (Bk a (l0 ++ t.ms.take k) ls) ∧ Hid (Sq wb bn P st V cV R cR n vs rs W) ∧ Hid (Ob wb bs ls [t] W)
set_option maxRecDepth 20000 in
set_option maxHeartbeats 4000000 in
theorem wsuper_any (N : Int) (A : Option Addr) (n c : Nat) (es : List Ed) (p s l q P : Int) (S : St) (A1 : Option Addr) (c1 : Nat) (A2 : Option Addr) (c2 : Nat) (A3 : Option Addr) (c3 : Nat) (w : World)
    (hA : Lies w w.heap.size 3 A n (ec es)) (hnc : n ≤ c) (hn : n ≤ maxLen) (hS : StL w w.heap.size S A1 c1 A2 c2 A3 c3) (hr : rightP N es p s l q (mkP P S) = true) (h40 : ¬ S.step = 40) :
    Calls Tryz.prog 41 #[.agg #[.int .i64 N, .slice A n c], .agg #[.int .i64 p, .int .i64 s, .int .i64 l, .int .i64 q], .agg #[.int .i64 P, .int .i64 S.step, .slice A1 S.vals.length c1, .slice A2 S.rest.length c2, .slice A3 S.inn.length c3]] w (SuPost N es p s l q P S w) := by
  have mixed : Tryz.prog.follows .mixedOrders = true := by kernel_rfl
  obtain ⟨hj, ⟨hP0, hP1⟩, ⟨hs0, hs1⟩, -⟩ := rightP_of hr
  obtain ⟨hq1, hq6, hv24, hrl, hN1, hN2⟩ := rightP_small hr
  have HN0 := Lib.hid hrl
  clear hrl
  have HAT := Lib.hid (fun (i : Nat) (hi : i < S.vals.length) => rightP_at hr hi)
  have hwr : IntKind.i64.wrap (S.step + 1) = S.step + 1 := by rw [IntKind.wrap_i64]; omega
  obtain ⟨w5, hw5⟩ : ∃ w5, w5 = ((((w.alloc (.cells #[.int .i64 N, .slice A n c] 27)).alloc (.cells #[.int .i64 p, .int .i64 s, .int .i64 l, .int .i64 q] 23)).alloc (.cells #[.int .i64 P, .int .i64 S.step, .slice A1 S.vals.length c1, .slice A2 S.rest.length c2, .slice A3 S.inn.length c3] 64)).alloc (.cells #[.int .i64 0, .int .i64 0, .slice none 0 0, .slice none 0 0, .slice none 0 0] 64)).alloc (.cells #[.slice none 0 0, .slice none 0 0, .slice none 0 0, .slice none 0 0, .slice none 0 0, .slice none 0 0] 104) := ⟨_, rfl⟩
  have hbs : Bp w N A n c p s l q P S A1 c1 A2 c2 A3 c3 w5 := by rw [hw5]; exact ((Bp.init w N A n c p s l q P S A1 c1 A2 c2 A3 c3).next (below_alloc _ _)).next (below_alloc _ _)
  have H4 := Lib.hid (fun (W : World) (hb : Below w5.heap.size w5 W) => fifth w _ _ _ _ _ W (by rw [hw5] at hb; exact hb))
  have HBS := Lib.hid hbs
  have HS := Lib.hid hS
  have HA := Lib.hid hA
  have q0 : w5.drew.cell? ⟨w.heap.size + 1 + 1, 0, none⟩ = some (.int .i64 P) ∧ w5.drew.cell? ⟨w.heap.size + 1 + 1, 1, none⟩ = some (.int .i64 S.step) ∧ w5.drew.cell? ⟨w.heap.size + 1 + 1, 2, none⟩ = some (.slice A1 S.vals.length c1) ∧ w5.drew.cell? ⟨w.heap.size + 1 + 1, 3, none⟩ = some (.slice A2 S.rest.length c2) ∧ Below w5.heap.size w5 w5.drew := ⟨hbs.p0, hbs.s0, hbs.s1, hbs.s2, (Below.refl _ _).drew⟩
  have HCV := Lib.hid (fun (W : World) (hb : Below w5.heap.size w5 W) => clone_v A1 c1 S.vals W ((hS.v.next hbs.x.bl).next hb) hS.ok.lv)
  have HCR := Lib.hid (fun (W : World) (hb : Below w5.heap.size w5 W) => clone_r A2 c2 S.rest W ((hS.r.next hbs.x.bl).next hb) hS.ok.lr)
  have HQ := Lib.hid (show ∀ (W W' : World), (W.cell? ⟨w.heap.size + 1 + 1, 0, none⟩ = some (.int .i64 P) ∧ W.cell? ⟨w.heap.size + 1 + 1, 1, none⟩ = some (.int .i64 S.step) ∧ W.cell? ⟨w.heap.size + 1 + 1, 2, none⟩ = some (.slice A1 S.vals.length c1) ∧ W.cell? ⟨w.heap.size + 1 + 1, 3, none⟩ = some (.slice A2 S.rest.length c2) ∧ Below w5.heap.size w5 W) → Below W.heap.size W W' → (W'.cell? ⟨w.heap.size + 1 + 1, 0, none⟩ = some (.int .i64 P) ∧ W'.cell? ⟨w.heap.size + 1 + 1, 1, none⟩ = some (.int .i64 S.step) ∧ W'.cell? ⟨w.heap.size + 1 + 1, 2, none⟩ = some (.slice A1 S.vals.length c1) ∧ W'.cell? ⟨w.heap.size + 1 + 1, 3, none⟩ = some (.slice A2 S.rest.length c2) ∧ Below w5.heap.size w5 W') by
    intro W W' h hb
    have hl : w.heap.size + 1 + 1 < W.heap.size := Nat.lt_of_lt_of_le (Nat.lt_of_lt_of_le (Nat.lt_succ_self _) hbs.z) h.2.2.2.2.size
    exact ⟨(hb.cell (p := ⟨_, 0, none⟩) hl).trans h.1, (hb.cell (p := ⟨_, 1, none⟩) hl).trans h.2.1, (hb.cell (p := ⟨_, 2, none⟩) hl).trans h.2.2.1, (hb.cell (p := ⟨_, 3, none⟩) hl).trans h.2.2.2.1, h.2.2.2.2.trans (hb.mono h.2.2.2.2.size)⟩)
  have HBA := Lib.hid (show Below w5.drew.heap.size w5.drew (w5.alloc (.cells #[.int .i64 0, .int .i64 0, .slice none 0 0, .slice none 0 0, .slice none 0 0] 64)).drew from ⟨rfl, rfl, rfl, (below_alloc w5 _).size, (below_alloc w5 _).block⟩)
  have HQ3 := Lib.hid (show ∀ (W : World) (b : Nat) (u0 u1 u2 u3 u4 : Value), (W.cell? ⟨w.heap.size + 1 + 1, 0, none⟩ = some (.int .i64 P) ∧ W.cell? ⟨w.heap.size + 1 + 1, 1, none⟩ = some (.int .i64 S.step) ∧ W.cell? ⟨w.heap.size + 1 + 1, 2, none⟩ = some (.slice A1 S.vals.length c1) ∧ W.cell? ⟨w.heap.size + 1 + 1, 3, none⟩ = some (.slice A2 S.rest.length c2) ∧ Below w5.heap.size w5 W) → w5.heap.size ≤ b → ((((((W.setCell ⟨b, 0, none⟩ u0).setCell ⟨b, 1, none⟩ u1).setCell ⟨b, 2, none⟩ u2).setCell ⟨b, 3, none⟩ u3).setCell ⟨b, 4, none⟩ u4).cell? ⟨w.heap.size + 1 + 1, 0, none⟩ = some (.int .i64 P) ∧ (((((W.setCell ⟨b, 0, none⟩ u0).setCell ⟨b, 1, none⟩ u1).setCell ⟨b, 2, none⟩ u2).setCell ⟨b, 3, none⟩ u3).setCell ⟨b, 4, none⟩ u4).cell? ⟨w.heap.size + 1 + 1, 1, none⟩ = some (.int .i64 S.step) ∧ (((((W.setCell ⟨b, 0, none⟩ u0).setCell ⟨b, 1, none⟩ u1).setCell ⟨b, 2, none⟩ u2).setCell ⟨b, 3, none⟩ u3).setCell ⟨b, 4, none⟩ u4).cell? ⟨w.heap.size + 1 + 1, 2, none⟩ = some (.slice A1 S.vals.length c1) ∧ (((((W.setCell ⟨b, 0, none⟩ u0).setCell ⟨b, 1, none⟩ u1).setCell ⟨b, 2, none⟩ u2).setCell ⟨b, 3, none⟩ u3).setCell ⟨b, 4, none⟩ u4).cell? ⟨w.heap.size + 1 + 1, 3, none⟩ = some (.slice A2 S.rest.length c2) ∧ Below w5.heap.size w5 (((((W.setCell ⟨b, 0, none⟩ u0).setCell ⟨b, 1, none⟩ u1).setCell ⟨b, 2, none⟩ u2).setCell ⟨b, 3, none⟩ u3).setCell ⟨b, 4, none⟩ u4)) by
    intro W b u0 u1 u2 u3 u4 h hle
    have hb : Below w5.heap.size W (((((W.setCell ⟨b, 0, none⟩ u0).setCell ⟨b, 1, none⟩ u1).setCell ⟨b, 2, none⟩ u2).setCell ⟨b, 3, none⟩ u3).setCell ⟨b, 4, none⟩ u4) := (((((Below.refl _ _).setCell (p := ⟨b, 0, none⟩) hle _).setCell (p := ⟨b, 1, none⟩) hle _).setCell (p := ⟨b, 2, none⟩) hle _).setCell (p := ⟨b, 3, none⟩) hle _).setCell (p := ⟨b, 4, none⟩) hle _
    generalize ((((W.setCell ⟨b, 0, none⟩ u0).setCell ⟨b, 1, none⟩ u1).setCell ⟨b, 2, none⟩ u2).setCell ⟨b, 3, none⟩ u3).setCell ⟨b, 4, none⟩ u4 = W' at hb ⊢
    have hl : w.heap.size + 1 + 1 < w5.heap.size := Nat.lt_of_lt_of_le (Nat.lt_succ_self _) hbs.z
    exact ⟨(hb.cell (p := ⟨_, 0, none⟩) hl).trans h.1, (hb.cell (p := ⟨_, 1, none⟩) hl).trans h.2.1, (hb.cell (p := ⟨_, 2, none⟩) hl).trans h.2.2.1, (hb.cell (p := ⟨_, 3, none⟩) hl).trans h.2.2.2.1, h.2.2.2.2.trans hb⟩)
  have HH := Lib.hid (show 0 ≤ P ∧ P < q ∧ 0 ≤ S.step ∧ S.step ≤ 40 ∧ 1 ≤ q ∧ q ≤ 6 ∧ S.vals.length ≤ 24 ∧ 1 ≤ N ∧ N ≤ 24 from ⟨hP0, hP1, hs0, hs1, hq1, hq6, hv24, hN1, hN2⟩)
  have H40 := Lib.hid h40
  have HJ := Lib.hid hj
  clear hbs hS hA hr h40 hj hP0 hP1 hs0 hs1 hq1 hq6 hv24 hN1 hN2
  go_enter Tryz.func41, Tryz.ntmps41
  go_upto_region 1 with fail
  rw [← hw5]
  clear hw5
  go_cut [9] (fun s9 W => ∃ bn V cV R cR, s9 = .pointer (some ⟨bn, 0, none⟩) ∧ Sq w5 bn P (S.step + 1) V cV R cR S.vals.length S.vals S.rest W)
  case first =>
    go_region_held3 (fun w' => w'.cell? ⟨w.heap.size + 1 + 1, 0, none⟩ = some (.int .i64 P) ∧ w'.cell? ⟨w.heap.size + 1 + 1, 1, none⟩ = some (.int .i64 S.step) ∧ w'.cell? ⟨w.heap.size + 1 + 1, 2, none⟩ = some (.slice A1 S.vals.length c1) ∧ w'.cell? ⟨w.heap.size + 1 + 1, 3, none⟩ = some (.slice A2 S.rest.length c2) ∧ Below w5.heap.size w5 w')
      (first | with_reducible exact q2 | with_reducible exact q1 | with_reducible exact q0 | with_reducible exact HQ.out _ _ q0 HBA.out | with_reducible exact HQ.out _ _ q2 (below_alloc _ _) | with_reducible exact HQ.out _ _ q1 (below_alloc _ _) | with_reducible exact HQ.out _ _ q0 (below_alloc _ _) | with_reducible exact HQ3.out _ _ _ _ _ _ _ q2 HL1.out | with_reducible exact HQ3.out _ _ _ _ _ _ _ q2 (Nat.le_refl _) | fail)
      (first | ((go_at_call 46); (with_reducible refine (HCV.out _ q0.2.2.2.2).mono ?_); rintro e w6 ⟨A5, c5, rfl, ho5, hb5⟩; have q1 := HQ.out _ _ q0 hb5; have HO5 := Lib.hid ho5; clear ho5 hb5 q0) | ((go_at_call 46); (with_reducible refine (HCV.out _ (HQ.out _ _ q0 HBA.out).2.2.2.2).mono ?_); rintro e w6 ⟨A5, c5, rfl, ho5, hb5⟩; have q1 := HQ.out _ _ (HQ.out _ _ q0 HBA.out) hb5; have Z5 := Lib.hid ((hb5.block w5.heap.size (by simp)).trans (heap_alloc_new w5 _)); have HO5 := Lib.hid ho5; clear ho5 hb5 q0) | ((go_at_call 47); (with_reducible refine (HCR.out _ q1.2.2.2.2).mono ?_); rintro e w7 ⟨A6, c6, rfl, ho6, hb6⟩; have q2 := HQ.out _ _ q1 hb6; have HO6 := Lib.hid ho6; have HB6 := Lib.hid hb6; have HL1 := Lib.hid q1.2.2.2.2.size; have z6 := (hb6.block w5.heap.size (lt_of_block Z5.out)).trans Z5.out; have r0 := cell_of_row w7 _ 0 _ 64 (0, 0) z6; have f0 := unfrozen z6 0; have r1 := cell_of_row w7 _ 1 _ 64 (0, 0) z6; have f1 := unfrozen z6 1; have r2 := cell_of_row w7 _ 2 _ 64 (0, 0) z6; have f2 := unfrozen z6 2; have r3 := cell_of_row w7 _ 3 _ 64 (0, 0) z6; have f3 := unfrozen z6 3; have r4 := cell_of_row w7 _ 4 _ 64 (0, 0) z6; have f4 := unfrozen z6 4; have Z6 := Lib.hid z6; clear z6 ho6 hb6 q1) | ((go_at_call 47); (with_reducible refine (HCR.out _ q1.2.2.2.2).mono ?_); rintro e w7 ⟨A6, c6, rfl, ho6, hb6⟩; have q2 := HQ.out _ _ q1 hb6; have HO6 := Lib.hid ho6; have HB6 := Lib.hid hb6; have HL1 := Lib.hid q1.2.2.2.2.size; clear ho6 hb6 q1) | ((go_at_call 47); (with_reducible refine (HCR.out _ (HQ.out _ _ q1 (below_alloc _ _)).2.2.2.2).mono ?_); rintro e w7 ⟨A6, c6, rfl, ho6, hb6⟩; have q2 := HQ.out _ _ (HQ.out _ _ q1 (below_alloc _ _)) hb6; have HO6 := Lib.hid ho6; have HB6 := Lib.hid hb6; have HL1 := Lib.hid q1.2.2.2.2.size; have z6 := (hb6.block w6.heap.size (by simp)).trans (heap_alloc_new w6 _); have r0 := cell_of_row w7 _ 0 _ 64 (0, 0) z6; have f0 := unfrozen z6 0; have r1 := cell_of_row w7 _ 1 _ 64 (0, 0) z6; have f1 := unfrozen z6 1; have r2 := cell_of_row w7 _ 2 _ 64 (0, 0) z6; have f2 := unfrozen z6 2; have r3 := cell_of_row w7 _ 3 _ 64 (0, 0) z6; have f3 := unfrozen z6 3; have r4 := cell_of_row w7 _ 4 _ 64 (0, 0) z6; have f4 := unfrozen z6 4; have Z6 := Lib.hid z6; clear z6 ho6 hb6 q1))
    all_goals
      go_wp2_with fail
      go_meet
      have ho6 := HO6.out
      rw [HN0.out] at ho6 ⊢
      first
        | exact ⟨_, A5, c5, A6, c6, rfl, Sq.new q2.2.2.2.2 (own_next HO5.out HB6.out) (ho6.lower HL1.out)⟩
        | exact ⟨_, A5, c5, A6, c6, rfl, Sq.old q2.2.2.2.2 (own_next (own_next HO5.out (below_alloc _ _)) HB6.out) (ho6.lower (Nat.le_trans HL1.out (by simp))) Z6.out HL1.out⟩
        | exact ⟨_, A5, c5, A6, c6, rfl, Sq.old q2.2.2.2.2 (own_next (HO5.out.lower (by simp)) HB6.out) (ho6.lower HL1.out) Z6.out (Nat.le_refl _)⟩
  case rest =>
    obtain ⟨bn, V, cV, R, cR, rfl, hsp⟩ := hcut
    clear HQ HQ3 HBA HCV HCR q0
    obtain ⟨hP0, hP1, hs0, hs1, hq1, hq6, hv24, hN1, hN2⟩ := id HH.out
    obtain ⟨bs, W0, e1, e2, h1, h2⟩ := ob_pack hsp
    have HSP := Lib.hid h1
    have HOB := Lib.hid h2
    clear hsp h1 h2
    go_upto_region 3 with fail
    rw [← e2, ← e1]
    clear e1 e2
    have t1 := (HBS.out.next HSP.out.bl).s1
    go_wp2_with fail
    clear t1
    obtain ⟨i0, hi0, hz0, hzs, hzb⟩ := info_parts (show (Tryz.prog.info? 118).map (fun i => (i.zero, i.size, i.bytes)) = some (some (.agg #[.int .i64 0, .int .i64 0]), 2, 16) by kernel_rfl)
    have HI0 := Lib.hid hi0
    have HZ0 := Lib.hid hz0
    have HZS := Lib.hid hzs
    have HZB := Lib.hid hzb
    clear hi0 hz0 hzs hzb
    obtain ⟨T, hT⟩ : ∃ T, T = tP N es p s l q (mkP P S) := ⟨_, rfl⟩
    obtain ⟨a, ha⟩ : ∃ a, a = q.toNat := ⟨_, rfl⟩
    have HTT := Lib.hid hT
    have HQA := Lib.hid ha
    clear hT ha
    go_loopw [38] (fun i W => SuRel w5 bn bs P (S.step + 1) V cV R cR a T S i W) (fun i W => S.vals.length - (intOf i).toNat)
    case atStart => exact ⟨0, _, rfl, Nat.zero_le _, Lib.hid (Bk.nil a), HSP, HOB, Lib.hid rfl⟩
    case round =>
      obtain ⟨k, ls, rfl, hk, HBK, HSQ, HO, HE⟩ := hrel
      clear HSP HOB
      have HBW := Lib.hid (HBS.out.next HSQ.out.bl)
      by_cases hkv : k < S.vals.length
      · have hkr : k < S.rest.length := by rw [HN0.out]; exact hkv
        have hkV : (k : Int) < (S.vals.length : Int) := by omega
        have hkR : (k : Int) < (S.rest.length : Int) := by omega
        obtain ⟨gV, _, rfl, _⟩ := own_some1 HSQ.out.v (by omega)
        obtain ⟨gR, _, rfl, _⟩ := own_some1 HSQ.out.r (by omega)
        obtain ⟨vv, hvv⟩ : ∃ vv, vv = P.toNat + k * a := ⟨_, rfl⟩
        have hvN : vv < 24 := by have := HAT.out k hkv; rw [← HQA.out, ← hvv] at this; omega
        have hmul : (k : Int) * q = ((k * a : Nat) : Int) := by
          have : q = ((a : Nat) : Int) := by have := HQA.out; omega
          rw [this]; push_cast; rfl
        obtain ⟨y, hy⟩ : ∃ y : Nat, y = k * a := ⟨_, rfl⟩
        rw [← hy] at hmul hvv
        have hsum : P + (y : Int) = (vv : Int) := by omega
        have HVV := Lib.hid (show vv = P.toNat + k * q.toNat by rw [hvv, hy, HQA.out])
        have hy24 : y < 24 := by omega
        have wr1 : IntKind.i64.wrap (y : Int) = (y : Int) := by rw [IntKind.wrap_i64]; omega
        have wr2 : IntKind.i64.wrap (vv : Int) = (vv : Int) := by rw [IntKind.wrap_i64]; omega
        clear hy hvv
        have s3 := HBW.out.s3
        have p0 := HBW.out.p0
        have j3 := HBW.out.x.j3
        obtain ⟨ad1, rfl, hadb1, c1k⟩ := (HS.out.v.next HBW.out.x.bl).vs k hkv
        obtain ⟨ad2, rfl, hadb2, _⟩ := HS.out.r.rs k hkr
        have HF3 := Lib.hid (show ∀ W : World, Below w5.heap.size w5 W → W.cell? ⟨w.heap.size, 0, none⟩ = some (.int .i64 N) ∧ W.cell? ⟨w.heap.size, 1, none⟩ = some (.slice A n c) ∧ W.cell? ⟨w.heap.size + 1, 0, none⟩ = some (.int .i64 p) ∧ W.cell? ⟨w.heap.size + 1, 1, none⟩ = some (.int .i64 s) ∧ W.cell? ⟨w.heap.size + 1, 2, none⟩ = some (.int .i64 l) ∧ W.cell? ⟨w.heap.size + 1, 3, none⟩ = some (.int .i64 q) ∧ W.cell? ⟨w.heap.size + 1 + 1, 1, none⟩ = some (.int .i64 S.step) ∧ Below w5.heap.size w5 W by
          intro W hb
          have h := HBS.out.next hb
          exact ⟨h.x.g0, h.x.g1, h.x.j0, h.x.j1, h.x.j2, h.x.j3, h.s0, hb⟩)
        go_wp2_with fail
        refine (at_any A3 S.inn.length c3 S.inn vv _ (HS.out.m.next HBW.out.x.bl) HS.out.ok.lm).mono ?_
        rintro e w1 ⟨rfl, hb1⟩
        have hsp1 := HSQ.out.next hb1
        have hob1 := HO.out.next hb1
        have HBW1 := Lib.hid (HBS.out.next hsp1.bl)
        have s2 := HBW1.out.s2
        obtain ⟨_, ea, _, c2k⟩ := (HS.out.r.next HBW1.out.x.bl).rs k hkr
        injection ea with ea
        subst ea
        clear c1k hadb1 hadb2 p0 j3 s3 hmul
        have HSP1 := Lib.hid hsp1
        have HO1 := Lib.hid hob1
        clear hsp1 hob1 hb1
        go_upto_region 8 with fail
        go_cut [65] (fun s65 W => s65 = .bool (rAt S.rest k && !atB S.inn vv) ∧ W = w1)
        case first =>
          cases hrk : rAt S.rest k with
          | true =>
            rw [hrk] at c2k
            go_wp2_with fail
            go_meet
            exact ⟨by simp [hrk], rfl⟩
          | false =>
            rw [hrk] at c2k
            go_wp2_with fail
            go_meet
            exact ⟨by simp [hrk], rfl⟩
        case rest =>
          obtain ⟨rfl, rfl⟩ := hcut
          clear c2k s2
          cases hre : (rAt S.rest k && !atB S.inn vv) with
          | true =>
            have hrk : rAt S.rest k = true := by cases h : rAt S.rest k <;> simp [h] at hre ⊢
            have hbk : atB S.inn vv = false := by cases h : atB S.inn vv <;> simp [h] at hre ⊢
            have HT := Lib.hid (show T k = (vAt S.vals k, [], true, 0) by rw [HTT.out]; unfold tP; exact turnP_rest hrk (by show atB S.inn ((P.toNat + k * q.toNat : Nat) : Int) = false; rw [← HVV.out]; exact hbk))
            have HER := Lib.hid (show errL T (k + 1) = 0 from firstE_ok HE.out (by show (T k).2.2.2 = 0; rw [HT.out]))
            have HSE := Lib.hid (show sentL T (k + 1) = sentL T k by rw [sentL_succ, HT.out]; simp)
            rw [vkeep hkv (by rw [HT.out]), rkeep hkr (by rw [HT.out]; exact hrk.symm)] at HSP1
            clear hre hrk hbk
            go_wp2_with fail
            go_roundw
            case rel => exact ⟨k + 1, ls, by go_num, by omega, by rw [HSE.out]; exact HBK, HSP1, HO1, HER⟩
            case measure => simp [intOf]; omega
          | false =>
            have HTR := Lib.hid (show turnR N es p s l q S.step vv (vAt S.vals k) (atV S.inn vv) (atB S.inn vv) = T k by
              rw [HTT.out]; unfold tP
              rw [turnP_turn (by
                show rAt S.rest k = false ∨ atB S.inn ((P.toNat + k * q.toNat : Nat) : Int) = true
                rw [← HVV.out]
                cases h : rAt S.rest k
                · exact .inl rfl
                · rw [h] at hre; right; simpa using hre)]
              show _ = turnR N es p s l q S.step ((P.toNat + k * q.toNat : Nat) : Int) (vAt S.vals k) (atV S.inn ((P.toNat + k * q.toNat : Nat) : Int)) (atB S.inn ((P.toNat + k * q.toNat : Nat) : Int))
              rw [← HVV.out])
            have HTU := Lib.hid (fun (W : World) (hb : Below w5.heap.size w5 W) => turn_any N A n c es p s l q S.step vv (vAt S.vals k) (atV S.inn vv) (atB S.inn vv) W (HA.out.next (HBS.out.next hb).x.bl) hnc hn (HS.out.ok.vAt k) (atV_bd HS.out.ok.m _))
            clear hre
            generalize atB S.inn vv = bk at HTR HTU ⊢
            generalize atV S.inn vv = gt at HTR HTU ⊢
            rw [HTR.out] at HTU
            generalize hTk : T k = t at HTU HTR
            have HT := Lib.hid hTk
            have gg := HBW1.out.x
            have g0 := gg.g0
            have g1 := gg.g1
            have j0 := gg.j0
            have j1 := gg.j1
            have j2 := gg.j2
            have j3 := gg.j3
            have s0 := HBW1.out.s0
            clear gg hTk
            go_wp2_with fail
            refine (HTU.out _ HSP1.out.bl).mono ?_
            rintro e w2 ⟨hb2, AT, cT, rfl, hoT⟩
            have HSP2 := Lib.hid (HSP1.out.next hb2)
            have HO2 := Lib.hid (HO1.out.add hb2 ⟨AT, cT, t.2.1⟩ hoT)
            clear g0 g1 j0 j1 j2 j3 s0 hb2 hoT HTU HSP1 HO1 HBW1 HBW HSQ HO
            obtain ⟨tv, tm, tb, te⟩ := t
            dsimp only at HO2 HT ⊢
            by_cases he : te = 0
            · subst he
              have HER := Lib.hid (show errL T (k + 1) = 0 from firstE_ok HE.out (by show (T k).2.2.2 = 0; rw [HT.out]))
              have HSE := Lib.hid (show sentL T (k + 1) = sentL T k ++ tm by rw [sentL_succ, HT.out])
              have HML := Lib.hid (show tm.length ≤ 80 by have := tP_len (N := N) (es := es) (p := p) (s := s) (l := l) (q := q) (mkP P S) k; rw [← HTT.out, HT.out] at this; exact this)
              have HMT := Lib.hid (show ∀ m ∈ tm, 0 ≤ m.1 ∧ m.1 < N by have := tP_to (N := N) (es := es) (p := p) (s := s) (l := l) (q := q) (mkP P S) k; rw [← HTT.out, HT.out] at this; exact this)
              have HSL := Lib.hid (show (sentL T k).length ≤ 80 * k from sentL_len T (fun v => by rw [HTT.out]; exact tP_len ..) k)
              have HSP3 := Lib.hid (HSP2.out.set k tv tb)
              rw [show (valsL T k ++ S.vals.drop k).set k tv = valsL T (k + 1) ++ S.vals.drop (k + 1) by (have := vset (T := T) hkv; rw [HT.out] at this; exact this), show (restL T k ++ S.rest.drop k).set k tb = restL T (k + 1) ++ S.rest.drop (k + 1) by (have := rset (T := T) hkr; rw [HT.out] at this; exact this)] at HSP3
              have HO3 := Lib.hid (HSP2.out.ob HO2.out k tv tb)
              have b1 : w2.cell? ⟨bn, 2, none⟩ = some (.slice (some ⟨gV, 0, none⟩) S.vals.length cV) := cell_of_row w2 bn 2 _ 64 (0, 0) HSP2.out.nb
              have b2 : w2.cell? ⟨bn, 3, none⟩ = some (.slice (some ⟨gR, 0, none⟩) S.vals.length cR) := cell_of_row w2 bn 3 _ 64 (0, 0) HSP2.out.nb
              obtain ⟨n1, n2, n3, n4, n5⟩ := HSP2.out.gr
              obtain ⟨x0, hx0⟩ : ∃ x0, w2.cell? ⟨gV, k, none⟩ = some x0 := ⟨_, (HSP2.out.v.cellAt k (by omega)).trans (vc_at _ k (by simp [valsL_len]; omega))⟩
              obtain ⟨y0, hy0⟩ : ∃ y0, w2.cell? ⟨gR, k, none⟩ = some y0 := ⟨_, (HSP2.out.r.cellAt k (by omega)).trans (rc_at _ k (by simp [restL_len]; omega))⟩
              have fV := HSP2.out.v.frozenAt k
              have fR := HSP2.out.r.frozenAt k
              have hy1 : (w2.setCell ⟨gV, k, none⟩ (.int .i64 tv)).cell? ⟨gR, k, none⟩ = some y0 := (World.cell?_setCell_other _ _ _ _ (by intro e; injection e with e; first | exact n1 e | exact n1 e.symm)).trans hy0
              have b2' : (w2.setCell ⟨gV, k, none⟩ (.int .i64 tv)).cell? ⟨bn, 3, none⟩ = some (.slice (some ⟨gR, 0, none⟩) S.vals.length cR) := (World.cell?_setCell_other _ _ _ _ (by intro e; injection e with e; first | exact n2 e | exact n2 e.symm)).trans b2
              have fR1 := (ownsRow_setCell_other HSP2.out.r (a := ⟨gV, k, none⟩) (fun e => n1 (by simpa [Value.ownBlock] using e.symm)) (.int .i64 tv)).frozenAt k
              clear n1 n2 n3 n4 n5
              go_wp2_with fail
              go_region
              clear hx0 hy0 fV fR hy1 fR1 b1 b2 b2' HSP2 HO2
              have HSP4 := Lib.hid (HSP3.out.next (W' := ((w2.setCell ⟨gV, k, none⟩ (.int .i64 tv)).setCell ⟨gR, k, none⟩ (.bool tb)).drew) ⟨rfl, rfl, rfl, Nat.le_refl _, fun _ _ => rfl⟩)
              have HO4 := Lib.hid (HO3.out.next (W' := ((w2.setCell ⟨gV, k, none⟩ (.int .i64 tv)).setCell ⟨gR, k, none⟩ (.bool tb)).drew) ⟨rfl, rfl, rfl, Nat.le_refl _, fun _ _ => rfl⟩)
              clear HSP3 HO3
              generalize ((w2.setCell ⟨gV, k, none⟩ (.int .i64 tv)).setCell ⟨gR, k, none⟩ (.bool tb)).drew = W3 at HSP4 HO4 ⊢
              obtain ⟨vs, hvs⟩ : ∃ vs, valsL T (k + 1) ++ S.vals.drop (k + 1) = vs := ⟨_, rfl⟩
              obtain ⟨rs, hrs⟩ : ∃ rs, restL T (k + 1) ++ S.rest.drop (k + 1) = rs := ⟨_, rfl⟩
              rw [hvs, hrs] at HSP4
              have HVS := Lib.hid hvs
              have HRS := Lib.hid hrs
              clear hvs hrs
              go_wp2_with fail
              go_loopw [97] (fun i W => SiRel w5 bn bs P (S.step + 1) (some ⟨gV, 0, none⟩) cV (some ⟨gR, 0, none⟩) cR S.vals.length vs rs a (sentL T k) ⟨AT, cT, tm⟩ i W) (fun i W => tm.length - (intOf i).toNat)
              case atStart => exact ⟨0, ls, rfl, Nat.zero_le _, by rw [List.take_zero, List.append_nil]; exact HBK, HSP4, HO4⟩
              case round =>
                clear HSP4 HO4 HBK
                obtain ⟨j, ls, rfl, hjk, HBK, HSP4, HO4⟩ := hrel
                have hjk : j ≤ tm.length := hjk
                by_cases hjt : j < tm.length
                · have hjT : (j : Int) < (tm.length : Int) := by omega
                  have hj80 : j < 80 := by have := HML.out; omega
                  have hL : Lies wr wr.heap.size 2 AT tm.length (mc tm) := Lies.of_own (show wr.ownsRow w5.heap.size 118 2 (.slice AT tm.length cT) tm.length (mc tm) from HO4.out.last)
                  obtain ⟨ad3, rfl, hadb3, e0, e1⟩ := hL.ms j hjt
                  clear hL
                  have HJ3 := Lib.hid (HBS.out.next HSP4.out.bl).x
                  have HTK := Lib.hid (show tm.take (j + 1) = tm.take j ++ [mAt tm j] by rw [List.take_succ_eq_append_getElem hjt, mAt_get tm j hjt])
                  obtain ⟨hm0, hm1⟩ : 0 ≤ (mAt tm j).1 ∧ (mAt tm j).1 < N := HMT.out _ (by rw [mAt_get tm j hjt]; exact List.getElem_mem hjt)
                  obtain ⟨h0, hh0⟩ : ∃ h0 : Nat, h0 = (mAt tm j).1.toNat % a := ⟨_, rfl⟩
                  have HHM := Lib.hid (show homeI q (mAt tm j).1 = (h0 : Int) by
                    rw [homeI_yes (by omega) (by omega) (by omega)]
                    have := (mod_iff hq1 (Int.natCast_nonneg h0) (mAt tm j).1.toNat).2 (by rw [Int.toNat_natCast, hh0, HQA.out])
                    rw [show (((mAt tm j).1.toNat : Nat) : Int) = (mAt tm j).1 by omega] at this
                    exact this)
                  have ha6 : h0 < a := by rw [hh0]; exact Nat.mod_lt _ (by have := HQA.out; omega)
                  have h06 : h0 < 6 := by have := HQA.out; omega
                  have HLN := Lib.hid HBK.out.1
                  have hl6 : h0 < ls.length := by rw [HLN.out]; exact h06
                  have HLE := Lib.hid (HBK.out.len h0 hl6)
                  have HBN := Lib.hid (HBK.out.put hl6 (m := mAt tm j) hm0 hh0.symm)
                  rw [List.append_assoc, ← HTK.out] at HBN
                  have hq0 : (0 : Int) ≤ (h0 : Int) := by omega
                  have hq5 : (h0 : Int) < 6 := by omega
                  have HMM := Lib.hid (show (sentL T k ++ tm.take j).length ≤ 80 * 24 + 80 by
                    have h1 := HSL.out; have h2 := HML.out
                    have h3 : (tm.take j).length ≤ tm.length := by rw [List.length_take]; omega
                    rw [List.length_append]; omega)
                  clear hh0 ha6 HTK
                  generalize mAt tm j = m at *
                  obtain ⟨m1, m2⟩ := m
                  dsimp only at hm0 hm1 e0 e1 HHM HBN ⊢
                  have HSP5 := Lib.hid (HSP4.out.next (below_alloc wr (.cells #[.int .i64 m1, .int .i64 m2] 118)))
                  have HO5 := Lib.hid (HO4.out.next (below_alloc wr (.cells #[.int .i64 m1, .int .i64 m2] 118)))
                  have HJ4 := Lib.hid (HJ3.out.next (below_alloc wr (.cells #[.int .i64 m1, .int .i64 m2] 118)))
                  have d0 : (wr.alloc (.cells #[.int .i64 m1, .int .i64 m2] 118)).cell? ⟨wr.heap.size, 0, none⟩ = some (.int .i64 m1) := by simp [go_sem]
                  have d1 : (wr.alloc (.cells #[.int .i64 m1, .int .i64 m2] 118)).cell? ⟨wr.heap.size, 1, none⟩ = some (.int .i64 m2) := by simp [go_sem]
                  have HSZ := Lib.hid (show wr.heap.size < (wr.alloc (.cells #[.int .i64 m1, .int .i64 m2] 118)).heap.size by simp)
                  go_upto_region 16 with fail
                  clear e0 e1 hadb3 HSP4 HO4 HJ3 HBK
                  obtain ⟨bm, hbm⟩ : ∃ bm, bm = wr.heap.size := ⟨_, rfl⟩
                  rw [← hbm] at HSZ d0 d1 ⊢
                  generalize wr.alloc (.cells #[.int .i64 m1, .int .i64 m2] 118) = w6 at HSP5 HO5 HJ4 d0 d1 HSZ ⊢
                  clear hbm
                  have j0 := HJ4.out.j0
                  have j1 := HJ4.out.j1
                  have j2 := HJ4.out.j2
                  have j3 := HJ4.out.j3
                  go_wp2_with fail
                  refine (home_any p s l q m1 _).mono ?_
                  rw [HHM.out]
                  rintro e w7 ⟨rfl, hb7⟩
                  have HSP7 := Lib.hid (HSP5.out.next hb7)
                  have HO7 := Lib.hid (HO5.out.next hb7)
                  have e0 := (hb7.cell (p := ⟨bm, 0, none⟩) HSZ.out).trans d0
                  have e1 := (hb7.cell (p := ⟨bm, 1, none⟩) HSZ.out).trans d1
                  have HBM := Lib.hid (Nat.lt_of_lt_of_le HSZ.out hb7.size)
                  clear d0 d1 j0 j1 j2 j3 hb7 HSP5 HO5 HJ4 HHM
                  go_upto_region 17 with fail
                  have u1 := HO7.out.cell h0 hl6
                  have hb8 : Below w7.heap.size w7 (w7.alloc (.cells #[.int .i64 m1, .int .i64 m2] 118)).drew := ((Below.refl _ _).alloc (Nat.le_refl _) _).drew
                  have HSP8 := Lib.hid (HSP7.out.next hb8)
                  have HO8 := Lib.hid (HO7.out.next hb8)
                  have HR8 := Lib.hid (HO8.out.row h0 hl6)
                  have HL8 := Lib.hid (show Lies (w7.alloc (.cells #[.int .i64 m1, .int .i64 m2] 118)).drew (w7.heap.size + 1) 2 (some ⟨w7.heap.size, 0, none⟩) 1 (mc [(m1, m2)]) from lies_m w7 (m1, m2))
                  have u2 : (w7.alloc (.cells #[.int .i64 m1, .int .i64 m2] 118)).cell? ⟨bs, h0, none⟩ = some ls[h0].v := HO8.out.cell h0 hl6
                  have HPUT := Lib.hid (fun (W' : World) (A : Option Addr) (c : Nat) ho hb hg hf => HO8.out.put (W' := W') h0 hl6 (A := A) (c := c) (m := (m1, m2)) rfl ho hb hg hf)
                  have HSQP := Lib.hid (fun (W' : World) (u : Value) hg => (HSP8.out.grown (W' := W') HR8.out hg).arr (k := h0) (u := u) (HO8.out.blk HR8.out hg) HO8.out.hb)
                  clear hb8
                  unfold Le.v at u1 u2 HR8 HPUT HSQP
                  generalize hXA : ls[h0].A = XA at *
                  generalize hXc : ls[h0].c = Xc at *
                  generalize hXm : ls[h0].ms = Xm at *
                  have hxl : Xm.length ≤ 2000 := by have h1 := HLE.out; have h2 := HMM.out; omega
                  clear hXA hXc hXm HO7 HSP7
                  go_region_law (refine step_own3 rfl _ _ 37 rfl w5.heap.size 118 i0 _ 2 16 Tryz.underlying37 HI0.out HZ0.out HZS.out HZB.out rfl (by decide) XA Xm.length Xc (mc Xm) (by simp [Act.eval]) HR8.out (w7.heap.size + 1) (some ⟨w7.heap.size, 0, none⟩) 1 1 (mc [(m1, m2)]) (by simp [Act.eval]) HL8.out (mc_one _) (by unfold maxLen; omega) (by omega) HSP8.out.bl.size ?_; intro A9 c9 w9 ho9 hb9 hg9 hf9; obtain ⟨hp9, t9, f9⟩ := HPUT.out w9 A9 c9 ho9 hb9 hg9 hf9; have HP9 := Lib.hid hp9; have HS9 := Lib.hid (HSQP.out w9 (.slice A9 (Xm.length + 1) c9) hg9))
                  all_goals
                    clear hp9 u1 u2 e0 e1 ho9 hb9 hg9 hf9 t9 f9 HR8 HL8 HPUT HSQP HSP8 HO8
                    go_wp2_with fail
                    go_roundw
                    case rel => exact ⟨j + 1, _, by go_num, by show j + 1 ≤ tm.length; omega, Lib.hid (HBN.out A9 c9), HS9, HP9⟩
                    case measure => simp [intOf]; omega
                · have hj' : j = tm.length := by omega
                  subst hj'
                  rw [show (⟨AT, cT, tm⟩ : Le).ms.take tm.length = tm from List.take_length, ← HSE.out] at HBK
                  have HO5 := Lib.hid HO4.out.less
                  go_wp2_with fail
                  go_roundw
                  case rel => exact ⟨k + 1, ls, by go_num, by omega, HBK, by rw [HVS.out, HRS.out]; exact HSP4, HO5, HER⟩
                  case measure => simp [intOf]; omega
            · have HR := Lib.hid (show errL T S.vals.length = te from (firstE_bad (f := fun v => (T v).2.2.2) HE.out hkv (by show ¬ (T k).2.2.2 = 0; rw [HT.out]; exact he)).trans (by show (T k).2.2.2 = te; rw [HT.out]))
              have HER := Lib.hid he
              have he1 : (te != 0) = true := by simpa using he
              obtain ⟨z2, z3⟩ := H4.out w2 HSP2.out.bl
              have r0 := cell_of_row w2 _ 0 _ 64 (0, 0) z2
              have f0 := unfrozen z2 0
              have r1 := cell_of_row w2 _ 1 _ 64 (0, 0) z2
              have f1 := unfrozen z2 1
              have r2 := cell_of_row w2 _ 2 _ 64 (0, 0) z2
              have f2 := unfrozen z2 2
              have r3 := cell_of_row w2 _ 3 _ 64 (0, 0) z2
              have f3 := unfrozen z2 3
              have r4 := cell_of_row w2 _ 4 _ 64 (0, 0) z2
              have f4 := unfrozen z2 4
              have s0 := cell_of_row w2 _ 0 _ 104 (0, 0) z3
              have t0 := unfrozen z3 0
              have s1 := cell_of_row w2 _ 1 _ 104 (0, 0) z3
              have t1 := unfrozen z3 1
              have s2 := cell_of_row w2 _ 2 _ 104 (0, 0) z3
              have t2 := unfrozen z3 2
              have s3 := cell_of_row w2 _ 3 _ 104 (0, 0) z3
              have t3 := unfrozen z3 3
              have s4 := cell_of_row w2 _ 4 _ 104 (0, 0) z3
              have t4 := unfrozen z3 4
              have s5 := cell_of_row w2 _ 5 _ 104 (0, 0) z3
              have t5 := unfrozen z3 5
              have HB2 := Lib.hid (HBS.out.next HSP2.out.bl).x.bl
              clear z2 z3 he HSP2 HO2 HBK
              go_wp2_with fail
              refine bodyPost_ret (v := .tuple #[.agg #[.int .i64 0, .int .i64 0, .slice none 0 0, .slice none 0 0, .slice none 0 0], .agg #[.slice none 0 0, .slice none 0 0, .slice none 0 0, .slice none 0 0, .slice none 0 0, .slice none 0 0], .int .i64 te]) (by simp [results, Tryz.results41, go_sem, r0, r1, r2, r3, r4, s0, s1, s2, s3, s4, s5]) rfl ?_
              unfold SuPost
              rw [← HTT.out, HR.out]
              refine ⟨?_, .inr ⟨HER.out, rfl⟩⟩
              exact (((((((((((HB2.out.setCell (by simp <;> omega) _).setCell (by simp <;> omega) _).setCell (by simp <;> omega) _).setCell (by simp <;> omega) _).setCell (by simp <;> omega) _).setCell (by simp <;> omega) _).setCell (by simp <;> omega) _).setCell (by simp <;> omega) _).setCell (by simp <;> omega) _).setCell (by simp <;> omega) _).setCell (by simp <;> omega) _)
      · have hk' : k = S.vals.length := by omega
        subst hk'
        have HBD := Lib.hid HBK.out
        have HLN := Lib.hid HBK.out.1
        have HL6 := Lib.hid (show ∀ e ∈ ls, ∃ i, ∃ h : i < ls.length, ls[i] = e from fun e he => by obtain ⟨i, h, e1⟩ := List.getElem_of_mem he; exact ⟨i, h, e1⟩)
        obtain ⟨x0, x1, x2, x3, x4, x5, rfl⟩ := six HBK.out.1
        have nb := HSQ.out.nb
        have nc := HO.out.nb
        have b0 := cell_of_row wr bn 0 _ 64 (0, 0) nb
        have b1 := cell_of_row wr bn 1 _ 64 (0, 0) nb
        have b2 := cell_of_row wr bn 2 _ 64 (0, 0) nb
        have b3 := cell_of_row wr bn 3 _ 64 (0, 0) nb
        have b4 := cell_of_row wr bn 4 _ 64 (0, 0) nb
        have d0 : wr.cell? ⟨bs, 0, none⟩ = some (.slice x0.A x0.ms.length x0.c) := cell_of_row wr bs 0 _ 104 (0, 0) nc
        have d1 : wr.cell? ⟨bs, 1, none⟩ = some (.slice x1.A x1.ms.length x1.c) := cell_of_row wr bs 1 _ 104 (0, 0) nc
        have d2 : wr.cell? ⟨bs, 2, none⟩ = some (.slice x2.A x2.ms.length x2.c) := cell_of_row wr bs 2 _ 104 (0, 0) nc
        have d3 : wr.cell? ⟨bs, 3, none⟩ = some (.slice x3.A x3.ms.length x3.c) := cell_of_row wr bs 3 _ 104 (0, 0) nc
        have d4 : wr.cell? ⟨bs, 4, none⟩ = some (.slice x4.A x4.ms.length x4.c) := cell_of_row wr bs 4 _ 104 (0, 0) nc
        have d5 : wr.cell? ⟨bs, 5, none⟩ = some (.slice x5.A x5.ms.length x5.c) := cell_of_row wr bs 5 _ 104 (0, 0) nc
        obtain ⟨z2, z3⟩ := H4.out wr HSQ.out.bl
        have r0 := cell_of_row wr _ 0 _ 64 (0, 0) z2
        have f0 := unfrozen z2 0
        have r1 := cell_of_row wr _ 1 _ 64 (0, 0) z2
        have f1 := unfrozen z2 1
        have r2 := cell_of_row wr _ 2 _ 64 (0, 0) z2
        have f2 := unfrozen z2 2
        have r3 := cell_of_row wr _ 3 _ 64 (0, 0) z2
        have f3 := unfrozen z2 3
        have r4 := cell_of_row wr _ 4 _ 64 (0, 0) z2
        have f4 := unfrozen z2 4
        have s0 := cell_of_row wr _ 0 _ 104 (0, 0) z3
        have t0 := unfrozen z3 0
        have s1 := cell_of_row wr _ 1 _ 104 (0, 0) z3
        have t1 := unfrozen z3 1
        have s2 := cell_of_row wr _ 2 _ 104 (0, 0) z3
        have t2 := unfrozen z3 2
        have s3 := cell_of_row wr _ 3 _ 104 (0, 0) z3
        have t3 := unfrozen z3 3
        have s4 := cell_of_row wr _ 4 _ 104 (0, 0) z3
        have t4 := unfrozen z3 4
        have s5 := cell_of_row wr _ 5 _ 104 (0, 0) z3
        have t5 := unfrozen z3 5
        have hlt4 : w.heap.size + 1 + 1 + 1 < w5.heap.size := lt_of_block (H4.out w5 (Below.refl _ _)).1
        have hlt5 : w.heap.size + 1 + 1 + 1 + 1 < w5.heap.size := lt_of_block (H4.out w5 (Below.refl _ _)).2
        have hn1 : ¬ w.heap.size + 1 + 1 + 1 = bs := by have := HO.out.hb; omega
        have hn2 : ¬ w.heap.size + 1 + 1 + 1 = bn := by have := HSQ.out.hbn; omega
        have hn3 : ¬ w.heap.size + 1 + 1 + 1 + 1 = bs := by have := HO.out.hb; omega
        have hn4 : ¬ w.heap.size + 1 + 1 + 1 + 1 = bn := by have := HSQ.out.hbn; omega
        clear nb nc z2 z3
        go_wp2_with fail
        go_region
        go_wp2_with fail
        refine bodyPost_ret (v := .tuple #[.agg #[.int .i64 P, .int .i64 (S.step + 1), .slice V S.vals.length cV, .slice R S.vals.length cR, .slice none 0 0], .agg #[.slice x0.A x0.ms.length x0.c, .slice x1.A x1.ms.length x1.c, .slice x2.A x2.ms.length x2.c, .slice x3.A x3.ms.length x3.c, .slice x4.A x4.ms.length x4.c, .slice x5.A x5.ms.length x5.c], .int .i64 0]) (by simp [results, Tryz.results41, go_sem, r0, r1, r2, r3, r4, s0, s1, s2, s3, s4, s5]) rfl ?_
        have hk := back11 (wr := wr) hlt4 hlt5 (.int .i64 P) (.int .i64 (S.step + 1)) (.slice V S.vals.length cV) (.slice R S.vals.length cR) (.slice none 0 0) (.slice x0.A x0.ms.length x0.c) (.slice x1.A x1.ms.length x1.c) (.slice x2.A x2.ms.length x2.c) (.slice x3.A x3.ms.length x3.c) (.slice x4.A x4.ms.length x4.c) (.slice x5.A x5.ms.length x5.c)
        have hbf := (((((((((((HBW.out.x.bl.setCell (p := ⟨w.heap.size + 1 + 1 + 1, 0, none⟩) (by simp <;> omega) (.int .i64 P)).setCell (p := ⟨w.heap.size + 1 + 1 + 1, 1, none⟩) (by simp <;> omega) (.int .i64 (S.step + 1))).setCell (p := ⟨w.heap.size + 1 + 1 + 1, 2, none⟩) (by simp <;> omega) (.slice V S.vals.length cV)).setCell (p := ⟨w.heap.size + 1 + 1 + 1, 3, none⟩) (by simp <;> omega) (.slice R S.vals.length cR)).setCell (p := ⟨w.heap.size + 1 + 1 + 1, 4, none⟩) (by simp <;> omega) (.slice none 0 0)).setCell (p := ⟨w.heap.size + 1 + 1 + 1 + 1, 0, none⟩) (by simp <;> omega) (.slice x0.A x0.ms.length x0.c)).setCell (p := ⟨w.heap.size + 1 + 1 + 1 + 1, 1, none⟩) (by simp <;> omega) (.slice x1.A x1.ms.length x1.c)).setCell (p := ⟨w.heap.size + 1 + 1 + 1 + 1, 2, none⟩) (by simp <;> omega) (.slice x2.A x2.ms.length x2.c)).setCell (p := ⟨w.heap.size + 1 + 1 + 1 + 1, 3, none⟩) (by simp <;> omega) (.slice x3.A x3.ms.length x3.c)).setCell (p := ⟨w.heap.size + 1 + 1 + 1 + 1, 4, none⟩) (by simp <;> omega) (.slice x4.A x4.ms.length x4.c)).setCell (p := ⟨w.heap.size + 1 + 1 + 1 + 1, 5, none⟩) (by simp <;> omega) (.slice x5.A x5.ms.length x5.c)).drew
        have hvl : (nextS N es p s l q P S).vals.length = S.vals.length := valsL_len ..
        have hrl : (nextS N es p s l q P S).rest.length = S.vals.length := restL_len ..
        have hok := nextS_ok (N := N) (es := es) (p := p) (s := s) (l := l) (q := q) (P := P) HS.out.ok hs1
        unfold SuPost
        rw [← HTT.out]
        refine ⟨hbf, .inl ⟨HE.out, V, cV, R, cR, [x0, x1, x2, x3, x4, x5], rfl, ?_, (Fr.own HSQ.out.v).low HBS.out.x.bl.size, (Fr.own HSQ.out.r).low HBS.out.x.bl.size, ?_, ?_⟩⟩
        · have hv8 := own_block HSQ.out.v hk
          have hr8 := own_block HSQ.out.r hk
          rw [List.drop_length, List.append_nil] at hv8
          rw [show restL T S.vals.length ++ S.rest.drop S.vals.length = restL T S.vals.length by rw [← HN0.out, List.drop_length, List.append_nil]] at hr8
          refine ⟨?_, ?_, Lies.nil, ?_, ?_, Nat.le_refl _, hok⟩
          · rw [hvl]; unfold nextS; rw [← HTT.out]; exact Lies.of_own hv8
          · rw [hrl]; unfold nextS; rw [← HTT.out]; exact Lies.of_own hr8
          · rw [hvl]; exact own_cap HSQ.out.v
          · rw [hrl]; exact own_cap HSQ.out.r
        · unfold doS
          show Bk q.toNat (sentL (tP N es p s l q (mkP P S)) S.vals.length) _
          rw [← HTT.out, ← HQA.out]
          exact HBK.out
        · intro e he
          obtain ⟨i, hi, rfl⟩ := HL6.out e he
          exact Lies.of_own (own_block (HO.out.row i hi) hk)
end Go.Proofs.YtpgdddjjjfkneaaGreatDoor


