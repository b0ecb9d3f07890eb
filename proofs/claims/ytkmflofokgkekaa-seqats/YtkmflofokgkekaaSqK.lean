/-
  The contract of the document's Step. No condition but that the numbers are of 64 bits and not too many.
-/
import Derived.Test.YtkmflofokgkekaaSqI
import Derived.Test.YtkmflofokgkekaaRefC
import Derived.BigRegion
import Derived.Deep.RegionHeld3
namespace Go.Proofs.Ytkmflofokgkekaa
open Go.ChangeShapes Go.WideShapes Go.ChangeAt Go.RowKit
set_option linter.unusedVariables false

/-- A superstep of the document under way: the new state in block bo, the turn in block bt, what was sent, what the turn sends. -/
structure Rq (wb : World) (bo : Nat) (st1 : Int) (V : Option Addr) (cV : Nat) (R : Option Addr) (cR : Nat) (vs : List Int) (rs : List Bool) (bt : Nat) (tc : Array Value) (AS : Option Addr) (cS : Nat) (xs : List Ms) (AT : Option Addr) (cT : Nat) (ts : List Ms) (W : World) : Prop where
  p : Rp wb bo st1 V cV R cR vs rs W
  t : W.heap[bt]? = some (.cells tc 87 (0, 0))
  so : W.ownsRow wb.heap.size 57 2 (.slice AS xs.length cS) xs.length (mc xs)
  st : W.ownsRow wb.heap.size 57 2 (.slice AT ts.length cT) ts.length (mc ts)
section
variable {wb : World} {bo : Nat} {st1 : Int} {V : Option Addr} {cV : Nat} {R : Option Addr} {cR : Nat} {vs : List Int} {rs : List Bool} {bt : Nat} {tc : Array Value} {AS : Option Addr} {cS : Nat} {xs : List Ms} {AT : Option Addr} {cT : Nat} {ts : List Ms} {W W' : World}
theorem Rq.next (h : Rq wb bo st1 V cV R cR vs rs bt tc AS cS xs AT cT ts W) (hb : Below W.heap.size W W') : Rq wb bo st1 V cV R cR vs rs bt tc AS cS xs AT cT ts W' :=
  ⟨h.p.next hb, (hb.block _ (lt_of_block h.t)).trans h.t, own_next h.so hb, own_next h.st hb⟩
theorem Rq.ne (h : Rq wb bo st1 V cV R cR vs rs bt tc AS cS xs AT cT ts W) : bt ≠ bo := by
  intro e
  have h1 := h.t
  rw [e, h.p.nb] at h1
  injection h1 with h1
  injection h1 with _ h1
  exact absurd h1 (by decide)
theorem Rq.putV (h : Rq wb bo st1 V cV R cR vs rs bt tc AS cS xs AT cT ts W) {A9 : Option Addr} {c9 : Nat} {x : Int} (ho : W'.ownsRow wb.heap.size 2 1 (.slice A9 (vs.length + 1) c9) (vs.length + 1) (vc vs ++ vc [x])) (hb : Below wb.heap.size W W') (hg : W.grownBy W' (Value.slice V vs.length cV).ownBlock) :
    Rq wb bo st1 A9 c9 R cR (vs ++ [x]) rs bt tc AS cS xs AT cT ts (W'.setCell ⟨bo, 1, none⟩ (.slice A9 (vs.length + 1) c9)) ∧ W'.cell? ⟨bo, 1, none⟩ = some (.slice V vs.length cV) ∧ W'.frozen? ⟨bo, 1, none⟩ = false := by
  have hn := h.p.blk h.p.v (by decide) hg
  refine ⟨⟨h.p.putV ho hb hg, ?_, h.p.keepV h.so hg, h.p.keepV h.st hg⟩, cell_of_row W' bo 1 _ 31 (0, 0) hn, unfrozen hn 1⟩
  rw [Below.heap_setCell _ _ _ _ h.ne]
  exact (hg.block _ (lt_of_block h.t) (fun e => own_ne h.p.v h.t (by decide) e.symm)).trans h.t
theorem Rq.putR (h : Rq wb bo st1 V cV R cR vs rs bt tc AS cS xs AT cT ts W) {A9 : Option Addr} {c9 : Nat} {x : Bool} (ho : W'.ownsRow wb.heap.size 4 1 (.slice A9 (rs.length + 1) c9) (rs.length + 1) (rc rs ++ rc [x])) (hb : Below wb.heap.size W W') (hg : W.grownBy W' (Value.slice R rs.length cR).ownBlock) :
    Rq wb bo st1 V cV A9 c9 vs (rs ++ [x]) bt tc AS cS xs AT cT ts (W'.setCell ⟨bo, 2, none⟩ (.slice A9 (rs.length + 1) c9)) ∧ W'.cell? ⟨bo, 2, none⟩ = some (.slice R rs.length cR) ∧ W'.frozen? ⟨bo, 2, none⟩ = false := by
  have hn := h.p.blk h.p.r (by decide) hg
  refine ⟨⟨h.p.putR ho hb hg, ?_, h.p.keepR h.so hg, h.p.keepR h.st hg⟩, cell_of_row W' bo 2 _ 31 (0, 0) hn, unfrozen hn 2⟩
  rw [Below.heap_setCell _ _ _ _ h.ne]
  exact (hg.block _ (lt_of_block h.t) (fun e => own_ne h.p.r h.t (by decide) e.symm)).trans h.t
/-- The turn's block is written. -/
theorem Rq.turn {u0 u1 u2 u3 y0 y1 y2 y3 : Value} (h : Rq wb bo st1 V cV R cR vs rs bt #[u0, u1, u2, u3] AS cS xs AT cT ts W) (hbt : wb.heap.size ≤ bt) : Rq wb bo st1 V cV R cR vs rs bt #[y0, y1, y2, y3] AS cS xs AT cT ts ((((W.setCell ⟨bt, 0, none⟩ y0).setCell ⟨bt, 1, none⟩ y1).setCell ⟨bt, 2, none⟩ y2).setCell ⟨bt, 3, none⟩ y3) := by
  have nv := own_ne h.p.v h.t (by decide)
  have nr := own_ne h.p.r h.t (by decide)
  have ns := own_ne h.so h.t (by decide)
  have nt := own_ne h.st h.t (by decide)
  have k : ∀ {b s m : Nat} {e : TypeId} {v : Value} {zs : List Value}, W.ownsRow b e s v m zs → v.ownBlock ≠ some bt → ((((W.setCell ⟨bt, 0, none⟩ y0).setCell ⟨bt, 1, none⟩ y1).setCell ⟨bt, 2, none⟩ y2).setCell ⟨bt, 3, none⟩ y3).ownsRow b e s v m zs := fun h hn =>
    ownsRow_setCell_other (ownsRow_setCell_other (ownsRow_setCell_other (ownsRow_setCell_other h (a := ⟨bt, 0, none⟩) hn _) (a := ⟨bt, 1, none⟩) hn _) (a := ⟨bt, 2, none⟩) hn _) (a := ⟨bt, 3, none⟩) hn _
  refine ⟨⟨(((h.p.bl.setCell (p := ⟨bt, 0, none⟩) hbt _).setCell (p := ⟨bt, 1, none⟩) hbt _).setCell (p := ⟨bt, 2, none⟩) hbt _).setCell (p := ⟨bt, 3, none⟩) hbt _, ?_, k h.p.v nv, k h.p.r nr, h.p.hb⟩, set_heap (set_heap (set_heap (set_heap h.t _) _) _) _, k h.so ns, k h.st nt⟩
  rw [Below.heap_setCell _ _ _ _ (fun e => h.ne e.symm), Below.heap_setCell _ _ _ _ (fun e => h.ne e.symm), Below.heap_setCell _ _ _ _ (fun e => h.ne e.symm), Below.heap_setCell _ _ _ _ (fun e => h.ne e.symm)]
  exact h.p.nb
end

def RsRel (w6 : World) (bo : Nat) (st1 : Int) (n : Nat) (T : Nat → Int × List Ms × Bool × Int) (o i : Value) (W : World) : Prop :=
  ∃ (k : Nat) (AS : Option Addr) (cS : Nat) (V : Option Addr) (cV : Nat) (R : Option Addr) (cR : Nat), i = .int .i64 k ∧ k ≤ n ∧ o = .slice AS (sentL T k).length cS ∧ Hid (W.ownsRow w6.heap.size 57 2 (.slice AS (sentL T k).length cS) (sentL T k).length (mc (sentL T k))) ∧
    Hid (Rp w6 bo st1 V cV R cR (valsL T k) (restL T k) W) ∧ Hid (errL T k = 0)

set_option maxRecDepth 20000 in
set_option maxHeartbeats 4000000 in
theorem rstep_any (N : Int) (A : Option Addr) (n c : Nat) (es : List Ed) (p s l q : Int) (S : St) (A1 : Option Addr) (c1 : Nat) (A2 : Option Addr) (c2 : Nat) (A3 : Option Addr) (c3 : Nat) (w : World)
    (hA : Lies w w.heap.size 3 A n (ec es)) (hnc : n ≤ c) (hn : n ≤ maxLen) (hS : StL w w.heap.size S A1 c1 A2 c2 A3 c3) :
    Calls Try.prog 35 #[.agg #[.int .i64 N, .slice A n c], .agg #[.int .i64 p, .int .i64 s, .int .i64 l, .int .i64 q], .agg #[.int .i64 S.step, .slice A1 S.vals.length c1, .slice A2 S.rest.length c2, .slice A3 S.inn.length c3]] w (StPost (stepR N es p s l q S) w) := by
  have mixed : Try.prog.follows .mixedOrders = true := by kernel_rfl
  obtain ⟨iv, hiv, hzv, hzsv, hzbv⟩ := info_parts (show (Try.prog.info? 2).map (fun i => (i.zero, i.size, i.bytes)) = some (some (.int .i64 0), 1, 8) by kernel_rfl)
  obtain ⟨ir, hir, hzr, hzsr, hzbr⟩ := info_parts (show (Try.prog.info? 4).map (fun i => (i.zero, i.size, i.bytes)) = some (some (.bool false), 1, 1) by kernel_rfl)
  have IV := Lib.hid hiv
  have ZV := Lib.hid hzv
  have SV := Lib.hid hzsv
  have BV := Lib.hid hzbv
  have IR := Lib.hid hir
  have ZR := Lib.hid hzr
  have SR := Lib.hid hzsr
  have BR := Lib.hid hzbr
  clear hiv hzv hzsv hzbv hir hzr hzsr hzbr
  obtain ⟨w4, hw4⟩ : ∃ w4, w4 = (((w.alloc (.cells #[.int .i64 N, .slice A n c] 24)).alloc (.cells #[.int .i64 p, .int .i64 s, .int .i64 l, .int .i64 q] 26)).alloc (.cells #[.int .i64 S.step, .slice A1 S.vals.length c1, .slice A2 S.rest.length c2, .slice A3 S.inn.length c3] 31)).alloc (.cells #[.int .i64 0, .slice none 0 0, .slice none 0 0, .slice none 0 0] 31) := ⟨_, rfl⟩
  have hbs : Bs w N A n c p s l q S A1 c1 A2 c2 A3 c3 w4 := by rw [hw4]; exact (Bs.init w N A n c p s l q S A1 c1 A2 c2 A3 c3).alloc _
  have H4 := Lib.hid (fun (W : World) (hb : Below w4.heap.size w4 W) => fourth w _ _ _ _ W (by rw [hw4] at hb; exact hb))
  have HBS := Lib.hid hbs
  have HS := Lib.hid (hS.next hbs.x.bl)
  have HA := Lib.hid (hA.next hbs.x.bl)
  clear hbs hS hA
  go_enter Try.func35, Try.ntmps35
  go_wp2_with fail
  rw [← hw4]
  clear hw4
  refine (rjcheck_any N A n c es p s l q _ HA.out hnc hn).mono ?_
  rintro e w5 ⟨rfl, hb5⟩
  have HB5 := Lib.hid hb5
  have hx := HBS.out.next hb5
  have HB := Lib.hid hx.x.bl
  by_cases hj : jchk N es p s l q = 0
  · rw [hj]
    have HJ := Lib.hid hj
    have g0 := hx.x.g0
    have g1 := hx.x.g1
    have j0 := hx.x.j0
    have j1 := hx.x.j1
    have j2 := hx.x.j2
    have j3 := hx.x.j3
    have s0 := hx.s0
    have s1 := hx.s1
    have s2 := hx.s2
    have s3 := hx.s3
    clear hx hb5 hj
    go_wp2_with fail
    refine (rright_any N A n c es p s l q S A1 c1 A2 c2 A3 c3 _ (HA.out.next HB5.out) hnc hn (HS.out.next HB5.out)).mono ?_
    rintro e w6 ⟨rfl, hb6⟩
    have HB6 := Lib.hid (HB5.out.trans (hb6.mono HB5.out.size))
    have hx := HBS.out.next HB6.out
    have HBW := Lib.hid hx.x.bl
    clear HB5 HB hb6 g0 g1 j0 j1 j2 j3 s0 s1 s2 s3
    cases hr : rightB N es p s l q S with
    | true =>
      have HRT := Lib.hid hr
      have g0 := hx.x.g0
      have g1 := hx.x.g1
      have j0 := hx.x.j0
      have j1 := hx.x.j1
      have j2 := hx.x.j2
      have j3 := hx.x.j3
      have s0 := hx.s0
      have s1 := hx.s1
      have s2 := hx.s2
      have s3 := hx.s3
      clear hx hr
      by_cases h40 : S.step = 40
      · have HR := Lib.hid (show stepR N es p s l q S = (noSt, 6) by unfold stepR; rw [if_pos HJ.out, if_pos HRT.out, if_pos h40])
        have z2 := H4.out w6 HB6.out
        have r0 := cell_of_row w6 _ 0 _ 31 (0, 0) z2
        have f0 := unfrozen z2 0
        have r1 := cell_of_row w6 _ 1 _ 31 (0, 0) z2
        have f1 := unfrozen z2 1
        have r2 := cell_of_row w6 _ 2 _ 31 (0, 0) z2
        have f2 := unfrozen z2 2
        have r3 := cell_of_row w6 _ 3 _ 31 (0, 0) z2
        have f3 := unfrozen z2 3
        rw [h40] at s0
        clear z2 h40 g0 g1 j0 j1 j2 j3 s1 s2 s3
        go_wp2_with fail
        refine bodyPost_ret (v := .tuple #[.agg #[.int .i64 0, .slice none 0 0, .slice none 0 0, .slice none 0 0], .int .i64 6]) (by simp [results, Try.results35, go_sem, r0, r1, r2, r3]) rfl ?_
        exact st_no HR.out ((((HBW.out.setCell (by simp; omega) _).setCell (by simp; omega) _).setCell (by simp; omega) _).setCell (by simp; omega) _)
      · have HSR := Lib.hid (show stepR N es p s l q S = superR N es p s l q S by unfold stepR; rw [if_pos HJ.out, if_pos HRT.out, if_neg h40])
        have h41 : (S.step == 40) = false := by simpa using h40
        obtain ⟨_, ⟨hs0, hs1⟩, hv, hrr, hm⟩ := right_of HRT.out
        obtain ⟨hN1, hN2⟩ := jchk_N HJ.out
        have hwr : IntKind.i64.wrap (S.step + 1) = S.step + 1 := by rw [IntKind.wrap_i64]; omega
        have HN0 := Lib.hid (show S.rest.length = S.vals.length by omega)
        have HV := Lib.hid (show S.vals.length = N.toNat by omega)
        have HNV := Lib.hid hv
        clear hv hrr hm h40
        have HP0 := Lib.hid (Rp.start w6 (S.step + 1))
        obtain ⟨i0, hi0, hz0, hzs, hzb⟩ := info_parts (show (Try.prog.info? 57).map (fun i => (i.zero, i.size, i.bytes)) = some (some (.agg #[.int .i64 0, .int .i64 0]), 2, 16) by kernel_rfl)
        have HI0 := Lib.hid hi0
        have HZ0 := Lib.hid hz0
        have HZS := Lib.hid hzs
        have HZB := Lib.hid hzb
        clear hi0 hz0 hzs hzb
        go_wp2_with fail
        clear g0 g1 j0 j1 j2 j3 s0 s1 s2 s3 h41
        generalize w6.alloc (.cells #[.int .i64 (S.step + 1), .slice none 0 0, .slice none 0 0, .slice none 0 0] 31) = W0 at HP0 ⊢
        obtain ⟨bo, hbo⟩ : ∃ b, b = w6.heap.size := ⟨_, rfl⟩
        rw [← hbo] at HP0 ⊢
        have HBO := Lib.hid hbo
        clear hbo
        obtain ⟨T, hT⟩ : ∃ T, T = turnS N es p s l q S := ⟨_, rfl⟩
        have HTT := Lib.hid hT
        clear hT
        go_loopw [10, 11] (fun o i W => RsRel w6 bo (S.step + 1) S.vals.length T o i W) (fun o i W => S.vals.length - (intOf i).toNat)
        case atStart => exact ⟨0, none, 0, none, 0, none, 0, rfl, Nat.zero_le _, rfl, World.ownsRow_nil _ _ _ _, HP0, rfl⟩
        case round =>
          obtain ⟨k, AS, cS, V, cV, R, cR, rfl, hk, rfl, HO, HP, HE⟩ := hrel
          clear HP0
          have HBR := Lib.hid (HB6.out.trans (HP.out.bl.mono HB6.out.size))
          have HXW := Lib.hid (HBS.out.next HBR.out)
          by_cases hkv : k < S.vals.length
          · have hkr : k < S.rest.length := by rw [HN0.out]; exact hkv
            have hkN : (k : Int) < N := by have := HNV.out; omega
            have hkV : (k : Int) < (S.vals.length : Int) := by omega
            have hkR : (k : Int) < (S.rest.length : Int) := by omega
            have hk24 : k < 24 := by have := HNV.out; omega
            have g0 := HXW.out.x.g0
            have g1 := HXW.out.x.g1
            have j0 := HXW.out.x.j0
            have j1 := HXW.out.x.j1
            have j2 := HXW.out.x.j2
            have j3 := HXW.out.x.j3
            have s0 := HXW.out.s0
            have s1 := HXW.out.s1
            have s2 := HXW.out.s2
            have s3 := HXW.out.s3
            obtain ⟨ad1, rfl, hadb1, _⟩ := HS.out.v.vs k hkv
            obtain ⟨ad2, rfl, hadb2, _⟩ := HS.out.r.rs k hkr
            go_wp2_with fail
            refine (rat_any A3 S.inn.length c3 S.inn k _ (HS.out.m.next HBR.out) HS.out.ok.lm).mono ?_
            rintro e w1 ⟨rfl, hb1⟩
            have HB1 := Lib.hid (HBR.out.trans (hb1.mono HBR.out.size))
            have HP1 := Lib.hid (HP.out.next hb1)
            have HO1 := Lib.hid (own_next HO.out hb1)
            have HS1 := Lib.hid (HS.out.next HB1.out)
            obtain ⟨_, ea, _, c1k⟩ := HS1.out.v.vs k hkv
            injection ea with ea
            subst ea
            obtain ⟨_, ea, hbk2, c2k⟩ := HS1.out.r.rs k hkr
            injection ea with ea
            subst ea
            have HX1 := Lib.hid (HBS.out.next HB1.out)
            clear g0 g1 j0 j1 j2 j3 s0 s1 s2 s3
            have s1 := HX1.out.s1
            have s2' := HX1.out.s2
            obtain ⟨o, ho⟩ : ∃ o : Obj, o = .cells #[.int .i64 (vAt S.vals k), .slice none 0 0, .bool true, .int .i64 0] 87 := ⟨_, rfl⟩
            have HQ2 := Lib.hid (show Rq w6 bo (S.step + 1) V cV R cR (valsL T k) (restL T k) w1.heap.size #[.int .i64 (vAt S.vals k), .slice none 0 0, .bool true, .int .i64 0] AS cS (sentL T k) none 0 [] (w1.alloc o) from ⟨HP1.out.next (below_alloc _ _), by rw [ho]; exact heap_alloc_new _ _, own_next HO1.out (below_alloc _ _), World.ownsRow_nil _ _ _ _⟩)
            have HB2 := Lib.hid (HB1.out.alloc (HB1.out.size) o)
            have c2l : (w1.alloc o).cell? (ad2.add k) = some (.bool (rAt S.rest k)) := (World.cell?_alloc_lt w1 o _ (by rw [block_add]; exact hbk2)).trans c2k
            have s2 := (HBS.out.next HB2.out).s2
            have HBT := Lib.hid (show w6.heap.size ≤ w1.heap.size from Nat.le_trans HP.out.bl.size hb1.size)
            clear hb1
            go_upto_region 15 with fail
            rw [← ho]
            clear ho
            clear s1 s2' c1k c2k
            generalize w1.alloc o = W2 at HQ2 HB2 c2l s2 ⊢
            generalize w1.heap.size = bt at HQ2 HBT ⊢
            clear HO1 HP1 HB1 HS1 HX1 HP HO
            have HF3 := Lib.hid (show ∀ W : World, Below w4.heap.size w4 W → W.cell? ⟨w.heap.size, 0, none⟩ = some (.int .i64 N) ∧ W.cell? ⟨w.heap.size, 1, none⟩ = some (.slice A n c) ∧ W.cell? ⟨w.heap.size + 1, 0, none⟩ = some (.int .i64 p) ∧ W.cell? ⟨w.heap.size + 1, 1, none⟩ = some (.int .i64 s) ∧ W.cell? ⟨w.heap.size + 1, 2, none⟩ = some (.int .i64 l) ∧ W.cell? ⟨w.heap.size + 1, 3, none⟩ = some (.int .i64 q) ∧ W.cell? ⟨w.heap.size + 1 + 1, 0, none⟩ = some (.int .i64 S.step) ∧ W.cell? ⟨w.heap.size + 1 + 1, 1, none⟩ = some (.slice (some ad1) S.vals.length c1) ∧ W.cell? (ad1.add k) = some (.int .i64 (vAt S.vals k)) ∧ Below w4.heap.size w4 W by
              intro W hb
              have h := HBS.out.next hb
              obtain ⟨a, ea, _, hc⟩ := (HS.out.v.next hb).vs k hkv
              injection ea with ea
              subst ea
              exact ⟨h.x.g0, h.x.g1, h.x.j0, h.x.j1, h.x.j2, h.x.j3, h.s0, h.s1, hc, hb⟩)
            have HB64 := Lib.hid HB6.out.size
            have HLB := Lib.hid (Nat.le_trans HB64.out HBT.out)
            cases hbk : atB S.inn k with
            | true =>
              obtain ⟨t, ht⟩ : ∃ t, t = T k := ⟨_, rfl⟩
              have HTk := Lib.hid ht
              have HTU := Lib.hid (fun (W : World) (hb : Below w4.heap.size w4 W) => rturn_any N A n c es p s l q S.step k (vAt S.vals k) (atV S.inn k) true W (HA.out.next hb) hnc hn (HS.out.ok.vAt k) (atV_bd HS.out.ok.m _))
              have hte : turnR N es p s l q S.step k (vAt S.vals k) (atV S.inn k) true = t := by rw [ht, HTT.out]; unfold turnS; rw [hbk]; simp
              rw [hte] at HTU
              clear hte ht
              have q0 := HF3.out W2.drew HB2.out.drew
              go_wp2_with fail
              clear c2l s2
              go_region_held3 (fun w' => w'.cell? ⟨w.heap.size, 0, none⟩ = some (.int .i64 N) ∧ w'.cell? ⟨w.heap.size, 1, none⟩ = some (.slice A n c) ∧ w'.cell? ⟨w.heap.size + 1, 0, none⟩ = some (.int .i64 p) ∧ w'.cell? ⟨w.heap.size + 1, 1, none⟩ = some (.int .i64 s) ∧ w'.cell? ⟨w.heap.size + 1, 2, none⟩ = some (.int .i64 l) ∧ w'.cell? ⟨w.heap.size + 1, 3, none⟩ = some (.int .i64 q) ∧ w'.cell? ⟨w.heap.size + 1 + 1, 0, none⟩ = some (.int .i64 S.step) ∧ w'.cell? ⟨w.heap.size + 1 + 1, 1, none⟩ = some (.slice (some ad1) S.vals.length c1) ∧ w'.cell? (ad1.add k) = some (.int .i64 (vAt S.vals k)) ∧ Below w4.heap.size w4 w')
                (first | exact q1 | exact q0 | exact HF3.out _ ((((q1.2.2.2.2.2.2.2.2.2.setCell (p := ⟨bt, 0, none⟩) HLB.out _).setCell (p := ⟨bt, 1, none⟩) HLB.out _).setCell (p := ⟨bt, 2, none⟩) HLB.out _).setCell (p := ⟨bt, 3, none⟩) HLB.out _) | fail)
                (first | ((go_at_call 44); (with_reducible refine (HTU.out _ q0.2.2.2.2.2.2.2.2.2).mono ?_); rintro e w7 ⟨hb7, AT, cT, rfl, hoT⟩; have q1 := HF3.out w7 (HB2.out.drew.trans (hb7.mono HB2.out.size)); have z7 := (hb7.block bt (lt_of_block HQ2.out.t)).trans HQ2.out.t; have r0 := cell_of_row w7 _ 0 _ 87 (0, 0) z7; have f0 := unfrozen z7 0; have r1 := cell_of_row w7 _ 1 _ 87 (0, 0) z7; have f1 := unfrozen z7 1; have r2 := cell_of_row w7 _ 2 _ 87 (0, 0) z7; have f2 := unfrozen z7 2; have r3 := cell_of_row w7 _ 3 _ 87 (0, 0) z7; have f3 := unfrozen z7 3))
              have HQ3 := Lib.hid (HQ2.out.next (below_of_drew hb7))
              obtain ⟨tv, tm, tb, te⟩ := t
              dsimp only at hoT ⊢
              have HQ5 := Lib.hid ((show Rq w6 bo (S.step + 1) V cV R cR (valsL T k) (restL T k) bt #[.int .i64 (vAt S.vals k), .slice none 0 0, .bool true, .int .i64 0] AS cS (sentL T k) AT cT tm w7 from ⟨HQ3.out.p, HQ3.out.t, HQ3.out.so, hoT.lower HQ2.out.p.bl.size⟩).turn (y0 := .int .i64 tv) (y1 := .slice AT tm.length cT) (y2 := .bool tb) (y3 := .int .i64 te) HBT.out)
              clear q0 q1 z7 r0 f0 r1 f1 r2 f2 r3 f3 hb7 hoT HQ2 HQ3 HB2 HTU HF3
              generalize (((w7.setCell ⟨bt, 0, none⟩ (.int .i64 tv)).setCell ⟨bt, 1, none⟩ (.slice AT tm.length cT)).setCell ⟨bt, 2, none⟩ (.bool tb)).setCell ⟨bt, 3, none⟩ (.int .i64 te) = W7 at HQ5 ⊢
              have HQ7 := HQ5
              have HT := HTk
              clear HQ5 HTk
              have HTV := Lib.hid (show valsL T (k + 1) = valsL T k ++ [tv] by rw [valsL_succ, ← HT.out])
              have HTB := Lib.hid (show restL T (k + 1) = restL T k ++ [tb] by rw [restL_succ, ← HT.out])
              have HTS := Lib.hid (show sentL T (k + 1) = sentL T k ++ tm by rw [sentL_succ, ← HT.out])
              have HSL := Lib.hid (show (sentL T k).length ≤ 80 * k from sentL_len T (fun v => by rw [HTT.out]; exact turnS_len ..) k)
              have HML := Lib.hid (show tm.length ≤ 80 by have := turnS_len N es p s l q S k; rw [← HTT.out, ← HT.out] at this; exact this)
              have v0 := cell_of_row W7 bt 0 _ 87 (0, 0) HQ7.out.t
              have v1 := cell_of_row W7 bt 1 _ 87 (0, 0) HQ7.out.t
              have v2 := cell_of_row W7 bt 2 _ 87 (0, 0) HQ7.out.t
              have v3 := cell_of_row W7 bt 3 _ 87 (0, 0) HQ7.out.t
              by_cases he : te = 0
              · subst he
                have HER := Lib.hid (show errL T (k + 1) = 0 from firstE_ok HE.out (by show (T k).2.2.2 = 0; rw [← HT.out]))
                have o1 := HQ7.out.p.c1
                rw [valsL_len] at o1
                have oa : (W7.alloc (.cells #[.int .i64 tv] 2)).cell? ⟨bo, 1, none⟩ = some (.slice V k cV) := (World.cell?_alloc_lt W7 _ _ HQ7.out.p.lt).trans o1
                have HQ8 := Lib.hid (HQ7.out.next (below_alloc W7 (.cells #[.int .i64 tv] 2)))
                have HV8 := Lib.hid HQ8.out.p.v
                rw [valsL_len] at HV8
                go_wp2_with (at_builtin; go_must (refine wpList_app2 _ rfl (.tmp 86) (.tmp 89) 27 rfl w6.heap.size 2 iv _ 1 8 Try.underlying27 IV.out ZV.out SV.out BV.out rfl (by decide) V k cV (vc (valsL T k)) rfl HV8.out (W7.heap.size + 1) (some ⟨W7.heap.size, 0, none⟩) 1 1 (vc [tv]) rfl (lies_v W7 _) (vc_one _) (k + 1) (vc (valsL T k) ++ vc [tv]) rfl rfl (by unfold maxLen; omega) (by omega) HQ8.out.p.bl.size ?_))
                intro A9 c9 w9 ho9 hb9 hg9
                obtain ⟨hq9, t9, f9⟩ := HQ8.out.putV (x := tv) (by rw [valsL_len]; exact ho9) hb9 (by rw [valsL_len]; exact hg9)
                rw [valsL_len] at hq9 t9
                have HQ9 := Lib.hid hq9
                clear hq9 ho9 hb9 hg9 HV8 HQ8 HQ7 o1 oa v0 v1 v2 v3
                go_upto_region 20 with fail
                generalize w9.setCell ⟨bo, 1, none⟩ (.slice A9 (k + 1) c9) = W9 at HQ9 ⊢
                clear t9 f9
                have v1 := cell_of_row W9 bt 1 _ 87 (0, 0) HQ9.out.t
                have v2 := cell_of_row W9 bt 2 _ 87 (0, 0) HQ9.out.t
                have o2 := HQ9.out.p.c2
                rw [restL_len] at o2
                have oa : (W9.alloc (.cells #[.bool tb] 4)).cell? ⟨bo, 2, none⟩ = some (.slice R k cR) := (World.cell?_alloc_lt W9 _ _ HQ9.out.p.lt).trans o2
                have HQa := Lib.hid (HQ9.out.next (below_alloc W9 (.cells #[.bool tb] 4)))
                have HRa := Lib.hid HQa.out.p.r
                rw [restL_len] at HRa
                go_wp2_with (at_builtin; go_must (refine wpList_app2 _ rfl (.tmp 93) (.tmp 96) 28 rfl w6.heap.size 4 ir _ 1 1 Try.underlying28 IR.out ZR.out SR.out BR.out rfl (by decide) R k cR (rc (restL T k)) rfl HRa.out (W9.heap.size + 1) (some ⟨W9.heap.size, 0, none⟩) 1 1 (rc [tb]) rfl (lies_r W9 _) (rc_one _) (k + 1) (rc (restL T k) ++ rc [tb]) rfl rfl (by unfold maxLen; omega) (by omega) HQa.out.p.bl.size ?_))
                intro Ab cb wb hob hbb hgb
                obtain ⟨hqb, tb9, fb9⟩ := HQa.out.putR (x := tb) (by rw [restL_len]; exact hob) hbb (by rw [restL_len]; exact hgb)
                rw [restL_len] at hqb tb9
                have HQb := Lib.hid hqb
                clear hqb hob hbb hgb HRa HQa HQ9 o2 oa v1 v2
                go_upto_region 21 with fail
                generalize wb.setCell ⟨bo, 2, none⟩ (.slice Ab (k + 1) cb) = Wb at HQb ⊢
                clear tb9 fb9
                have v1 := cell_of_row Wb bt 1 _ 87 (0, 0) HQb.out.t
                go_wp2_with (at_builtin; go_must (refine wpList_app2 _ rfl (.tmp 99) (.tmp 101) 29 rfl w6.heap.size 57 i0 _ 2 16 Try.underlying29 HI0.out HZ0.out HZS.out HZB.out rfl (by decide) AS (sentL T k).length cS (mc (sentL T k)) rfl HQb.out.so Wb.heap.size AT tm.length cT (mc tm) rfl (Lies.of_own HQb.out.st) (mc_one _) (sentL T k ++ tm).length (mc (sentL T k ++ tm)) (by rw [List.length_append]) (by rw [mc_append]) (by have := HSL.out; have := HML.out; rw [List.length_append]; unfold maxLen; omega) (by have := HSL.out; have := HML.out; rw [List.length_append]; omega) HQb.out.p.bl.size ?_))
                intro Ac cc wc' hoc hbc hgc
                have HPc := Lib.hid (HQb.out.p.grown HQb.out.so hgc)
                have HOc := Lib.hid hoc
                clear hoc hbc hgc HQb v1
                go_wp2_with fail
                go_roundw
                case rel => exact ⟨k + 1, Ac, cc, A9, c9, Ab, cb, by go_num, by omega, by rw [HTS.out, List.length_append], by rw [HTS.out, List.length_append]; exact HOc.out, by rw [HTV.out, HTB.out]; exact HPc.out, HER.out⟩
                case measure => simp [intOf]; omega
              · have HR := Lib.hid (show stepR N es p s l q S = (noSt, te) by
                  have e1 : errL T N.toNat = te := (firstE_bad (f := fun v => (T v).2.2.2) HE.out (by rw [← HV.out]; exact hkv) (by show ¬ (T k).2.2.2 = 0; rw [← HT.out]; exact he)).trans (by show (T k).2.2.2 = te; rw [← HT.out])
                  rw [HSR.out]
                  unfold superR; rw [← HTT.out, e1, if_neg he])
                have he1 : (te != 0) = true := by simpa using he
                have z2 := H4.out W7 (HB6.out.trans (HQ7.out.p.bl.mono HB6.out.size))
                have r0 := cell_of_row W7 _ 0 _ 31 (0, 0) z2
                have f0 := unfrozen z2 0
                have r1 := cell_of_row W7 _ 1 _ 31 (0, 0) z2
                have f1 := unfrozen z2 1
                have r2 := cell_of_row W7 _ 2 _ 31 (0, 0) z2
                have f2 := unfrozen z2 2
                have r3 := cell_of_row W7 _ 3 _ 31 (0, 0) z2
                have f3 := unfrozen z2 3
                have HB2 := Lib.hid (HBS.out.next (HB6.out.trans (HQ7.out.p.bl.mono HB6.out.size))).x.bl
                have hbtr : bt ≠ w.heap.size + 1 + 1 + 1 := by have := lt_of_block (H4.out w4 (Below.refl _ _)); have := HB6.out.size; have := HBT.out; omega
                have v3' : ((((W7.setCell ⟨w.heap.size + 1 + 1 + 1, 0, none⟩ (.int .i64 0)).setCell ⟨w.heap.size + 1 + 1 + 1, 1, none⟩ (.slice none 0 0)).setCell ⟨w.heap.size + 1 + 1 + 1, 2, none⟩ (.slice none 0 0)).setCell ⟨w.heap.size + 1 + 1 + 1, 3, none⟩ (.slice none 0 0)).cell? ⟨bt, 3, none⟩ = some (.int .i64 te) := by
                  refine (World.cell?_of_block (w := W7) ?_).trans v3
                  rw [Below.heap_setCell _ _ _ _ hbtr, Below.heap_setCell _ _ _ _ hbtr, Below.heap_setCell _ _ _ _ hbtr, Below.heap_setCell _ _ _ _ hbtr]
                clear z2 he HQ7 v0 v1 v2 hbtr
                go_wp2_with fail
                go_region
                all_goals
                  go_wp2_with fail
                  refine bodyPost_ret (v := .tuple #[.agg #[.int .i64 0, .slice none 0 0, .slice none 0 0, .slice none 0 0], .int .i64 te]) (by simp [results, Try.results35, go_sem, r0, r1, r2, r3]) rfl ?_
                  exact st_no HR.out (Below.drew ((((HB2.out.setCell (by simp; omega) _).setCell (by simp; omega) _).setCell (by simp; omega) _).setCell (by simp; omega) _))
            | false =>
              cases hrk : rAt S.rest k with
              | false =>
                rw [hrk] at c2l
                obtain ⟨t, ht⟩ : ∃ t, t = T k := ⟨_, rfl⟩
                have HTk := Lib.hid ht
                have HTU := Lib.hid (fun (W : World) (hb : Below w4.heap.size w4 W) => rturn_any N A n c es p s l q S.step k (vAt S.vals k) (atV S.inn k) false W (HA.out.next hb) hnc hn (HS.out.ok.vAt k) (atV_bd HS.out.ok.m _))
                have hte : turnR N es p s l q S.step k (vAt S.vals k) (atV S.inn k) false = t := by rw [ht, HTT.out]; unfold turnS; rw [hrk, hbk]; rfl
                rw [hte] at HTU
                clear hte ht
                have q0 := HF3.out W2.drew HB2.out.drew
                go_wp2_with fail
                clear c2l s2
                go_region_held3 (fun w' => w'.cell? ⟨w.heap.size, 0, none⟩ = some (.int .i64 N) ∧ w'.cell? ⟨w.heap.size, 1, none⟩ = some (.slice A n c) ∧ w'.cell? ⟨w.heap.size + 1, 0, none⟩ = some (.int .i64 p) ∧ w'.cell? ⟨w.heap.size + 1, 1, none⟩ = some (.int .i64 s) ∧ w'.cell? ⟨w.heap.size + 1, 2, none⟩ = some (.int .i64 l) ∧ w'.cell? ⟨w.heap.size + 1, 3, none⟩ = some (.int .i64 q) ∧ w'.cell? ⟨w.heap.size + 1 + 1, 0, none⟩ = some (.int .i64 S.step) ∧ w'.cell? ⟨w.heap.size + 1 + 1, 1, none⟩ = some (.slice (some ad1) S.vals.length c1) ∧ w'.cell? (ad1.add k) = some (.int .i64 (vAt S.vals k)) ∧ Below w4.heap.size w4 w')
                  (first | exact q1 | exact q0 | exact HF3.out _ ((((q1.2.2.2.2.2.2.2.2.2.setCell (p := ⟨bt, 0, none⟩) HLB.out _).setCell (p := ⟨bt, 1, none⟩) HLB.out _).setCell (p := ⟨bt, 2, none⟩) HLB.out _).setCell (p := ⟨bt, 3, none⟩) HLB.out _) | fail)
                  (first | ((go_at_call 44); (with_reducible refine (HTU.out _ q0.2.2.2.2.2.2.2.2.2).mono ?_); rintro e w7 ⟨hb7, AT, cT, rfl, hoT⟩; have q1 := HF3.out w7 (HB2.out.drew.trans (hb7.mono HB2.out.size)); have z7 := (hb7.block bt (lt_of_block HQ2.out.t)).trans HQ2.out.t; have r0 := cell_of_row w7 _ 0 _ 87 (0, 0) z7; have f0 := unfrozen z7 0; have r1 := cell_of_row w7 _ 1 _ 87 (0, 0) z7; have f1 := unfrozen z7 1; have r2 := cell_of_row w7 _ 2 _ 87 (0, 0) z7; have f2 := unfrozen z7 2; have r3 := cell_of_row w7 _ 3 _ 87 (0, 0) z7; have f3 := unfrozen z7 3))
                have HQ3 := Lib.hid (HQ2.out.next (below_of_drew hb7))
                obtain ⟨tv, tm, tb, te⟩ := t
                dsimp only at hoT ⊢
                have HQ5 := Lib.hid ((show Rq w6 bo (S.step + 1) V cV R cR (valsL T k) (restL T k) bt #[.int .i64 (vAt S.vals k), .slice none 0 0, .bool true, .int .i64 0] AS cS (sentL T k) AT cT tm w7 from ⟨HQ3.out.p, HQ3.out.t, HQ3.out.so, hoT.lower HQ2.out.p.bl.size⟩).turn (y0 := .int .i64 tv) (y1 := .slice AT tm.length cT) (y2 := .bool tb) (y3 := .int .i64 te) HBT.out)
                clear q0 q1 z7 r0 f0 r1 f1 r2 f2 r3 f3 hb7 hoT HQ2 HQ3 HB2 HTU HF3
                generalize (((w7.setCell ⟨bt, 0, none⟩ (.int .i64 tv)).setCell ⟨bt, 1, none⟩ (.slice AT tm.length cT)).setCell ⟨bt, 2, none⟩ (.bool tb)).setCell ⟨bt, 3, none⟩ (.int .i64 te) = W7 at HQ5 ⊢
                have HQ7 := HQ5
                have HT := HTk
                clear HQ5 HTk
                have HTV := Lib.hid (show valsL T (k + 1) = valsL T k ++ [tv] by rw [valsL_succ, ← HT.out])
                have HTB := Lib.hid (show restL T (k + 1) = restL T k ++ [tb] by rw [restL_succ, ← HT.out])
                have HTS := Lib.hid (show sentL T (k + 1) = sentL T k ++ tm by rw [sentL_succ, ← HT.out])
                have HSL := Lib.hid (show (sentL T k).length ≤ 80 * k from sentL_len T (fun v => by rw [HTT.out]; exact turnS_len ..) k)
                have HML := Lib.hid (show tm.length ≤ 80 by have := turnS_len N es p s l q S k; rw [← HTT.out, ← HT.out] at this; exact this)
                have v0 := cell_of_row W7 bt 0 _ 87 (0, 0) HQ7.out.t
                have v1 := cell_of_row W7 bt 1 _ 87 (0, 0) HQ7.out.t
                have v2 := cell_of_row W7 bt 2 _ 87 (0, 0) HQ7.out.t
                have v3 := cell_of_row W7 bt 3 _ 87 (0, 0) HQ7.out.t
                by_cases he : te = 0
                · subst he
                  have HER := Lib.hid (show errL T (k + 1) = 0 from firstE_ok HE.out (by show (T k).2.2.2 = 0; rw [← HT.out]))
                  have o1 := HQ7.out.p.c1
                  rw [valsL_len] at o1
                  have oa : (W7.alloc (.cells #[.int .i64 tv] 2)).cell? ⟨bo, 1, none⟩ = some (.slice V k cV) := (World.cell?_alloc_lt W7 _ _ HQ7.out.p.lt).trans o1
                  have HQ8 := Lib.hid (HQ7.out.next (below_alloc W7 (.cells #[.int .i64 tv] 2)))
                  have HV8 := Lib.hid HQ8.out.p.v
                  rw [valsL_len] at HV8
                  go_wp2_with (at_builtin; go_must (refine wpList_app2 _ rfl (.tmp 86) (.tmp 89) 27 rfl w6.heap.size 2 iv _ 1 8 Try.underlying27 IV.out ZV.out SV.out BV.out rfl (by decide) V k cV (vc (valsL T k)) rfl HV8.out (W7.heap.size + 1) (some ⟨W7.heap.size, 0, none⟩) 1 1 (vc [tv]) rfl (lies_v W7 _) (vc_one _) (k + 1) (vc (valsL T k) ++ vc [tv]) rfl rfl (by unfold maxLen; omega) (by omega) HQ8.out.p.bl.size ?_))
                  intro A9 c9 w9 ho9 hb9 hg9
                  obtain ⟨hq9, t9, f9⟩ := HQ8.out.putV (x := tv) (by rw [valsL_len]; exact ho9) hb9 (by rw [valsL_len]; exact hg9)
                  rw [valsL_len] at hq9 t9
                  have HQ9 := Lib.hid hq9
                  clear hq9 ho9 hb9 hg9 HV8 HQ8 HQ7 o1 oa v0 v1 v2 v3
                  go_upto_region 20 with fail
                  generalize w9.setCell ⟨bo, 1, none⟩ (.slice A9 (k + 1) c9) = W9 at HQ9 ⊢
                  clear t9 f9
                  have v1 := cell_of_row W9 bt 1 _ 87 (0, 0) HQ9.out.t
                  have v2 := cell_of_row W9 bt 2 _ 87 (0, 0) HQ9.out.t
                  have o2 := HQ9.out.p.c2
                  rw [restL_len] at o2
                  have oa : (W9.alloc (.cells #[.bool tb] 4)).cell? ⟨bo, 2, none⟩ = some (.slice R k cR) := (World.cell?_alloc_lt W9 _ _ HQ9.out.p.lt).trans o2
                  have HQa := Lib.hid (HQ9.out.next (below_alloc W9 (.cells #[.bool tb] 4)))
                  have HRa := Lib.hid HQa.out.p.r
                  rw [restL_len] at HRa
                  go_wp2_with (at_builtin; go_must (refine wpList_app2 _ rfl (.tmp 93) (.tmp 96) 28 rfl w6.heap.size 4 ir _ 1 1 Try.underlying28 IR.out ZR.out SR.out BR.out rfl (by decide) R k cR (rc (restL T k)) rfl HRa.out (W9.heap.size + 1) (some ⟨W9.heap.size, 0, none⟩) 1 1 (rc [tb]) rfl (lies_r W9 _) (rc_one _) (k + 1) (rc (restL T k) ++ rc [tb]) rfl rfl (by unfold maxLen; omega) (by omega) HQa.out.p.bl.size ?_))
                  intro Ab cb wb hob hbb hgb
                  obtain ⟨hqb, tb9, fb9⟩ := HQa.out.putR (x := tb) (by rw [restL_len]; exact hob) hbb (by rw [restL_len]; exact hgb)
                  rw [restL_len] at hqb tb9
                  have HQb := Lib.hid hqb
                  clear hqb hob hbb hgb HRa HQa HQ9 o2 oa v1 v2
                  go_upto_region 21 with fail
                  generalize wb.setCell ⟨bo, 2, none⟩ (.slice Ab (k + 1) cb) = Wb at HQb ⊢
                  clear tb9 fb9
                  have v1 := cell_of_row Wb bt 1 _ 87 (0, 0) HQb.out.t
                  go_wp2_with (at_builtin; go_must (refine wpList_app2 _ rfl (.tmp 99) (.tmp 101) 29 rfl w6.heap.size 57 i0 _ 2 16 Try.underlying29 HI0.out HZ0.out HZS.out HZB.out rfl (by decide) AS (sentL T k).length cS (mc (sentL T k)) rfl HQb.out.so Wb.heap.size AT tm.length cT (mc tm) rfl (Lies.of_own HQb.out.st) (mc_one _) (sentL T k ++ tm).length (mc (sentL T k ++ tm)) (by rw [List.length_append]) (by rw [mc_append]) (by have := HSL.out; have := HML.out; rw [List.length_append]; unfold maxLen; omega) (by have := HSL.out; have := HML.out; rw [List.length_append]; omega) HQb.out.p.bl.size ?_))
                  intro Ac cc wc' hoc hbc hgc
                  have HPc := Lib.hid (HQb.out.p.grown HQb.out.so hgc)
                  have HOc := Lib.hid hoc
                  clear hoc hbc hgc HQb v1
                  go_wp2_with fail
                  go_roundw
                  case rel => exact ⟨k + 1, Ac, cc, A9, c9, Ab, cb, by go_num, by omega, by rw [HTS.out, List.length_append], by rw [HTS.out, List.length_append]; exact HOc.out, by rw [HTV.out, HTB.out]; exact HPc.out, HER.out⟩
                  case measure => simp [intOf]; omega
                · have HR := Lib.hid (show stepR N es p s l q S = (noSt, te) by
                    have e1 : errL T N.toNat = te := (firstE_bad (f := fun v => (T v).2.2.2) HE.out (by rw [← HV.out]; exact hkv) (by show ¬ (T k).2.2.2 = 0; rw [← HT.out]; exact he)).trans (by show (T k).2.2.2 = te; rw [← HT.out])
                    rw [HSR.out]
                    unfold superR; rw [← HTT.out, e1, if_neg he])
                  have he1 : (te != 0) = true := by simpa using he
                  have z2 := H4.out W7 (HB6.out.trans (HQ7.out.p.bl.mono HB6.out.size))
                  have r0 := cell_of_row W7 _ 0 _ 31 (0, 0) z2
                  have f0 := unfrozen z2 0
                  have r1 := cell_of_row W7 _ 1 _ 31 (0, 0) z2
                  have f1 := unfrozen z2 1
                  have r2 := cell_of_row W7 _ 2 _ 31 (0, 0) z2
                  have f2 := unfrozen z2 2
                  have r3 := cell_of_row W7 _ 3 _ 31 (0, 0) z2
                  have f3 := unfrozen z2 3
                  have HB2 := Lib.hid (HBS.out.next (HB6.out.trans (HQ7.out.p.bl.mono HB6.out.size))).x.bl
                  have hbtr : bt ≠ w.heap.size + 1 + 1 + 1 := by have := lt_of_block (H4.out w4 (Below.refl _ _)); have := HB6.out.size; have := HBT.out; omega
                  have v3' : ((((W7.setCell ⟨w.heap.size + 1 + 1 + 1, 0, none⟩ (.int .i64 0)).setCell ⟨w.heap.size + 1 + 1 + 1, 1, none⟩ (.slice none 0 0)).setCell ⟨w.heap.size + 1 + 1 + 1, 2, none⟩ (.slice none 0 0)).setCell ⟨w.heap.size + 1 + 1 + 1, 3, none⟩ (.slice none 0 0)).cell? ⟨bt, 3, none⟩ = some (.int .i64 te) := by
                    refine (World.cell?_of_block (w := W7) ?_).trans v3
                    rw [Below.heap_setCell _ _ _ _ hbtr, Below.heap_setCell _ _ _ _ hbtr, Below.heap_setCell _ _ _ _ hbtr, Below.heap_setCell _ _ _ _ hbtr]
                  clear z2 he HQ7 v0 v1 v2 hbtr
                  go_wp2_with fail
                  go_region
                  all_goals
                    go_wp2_with fail
                    refine bodyPost_ret (v := .tuple #[.agg #[.int .i64 0, .slice none 0 0, .slice none 0 0, .slice none 0 0], .int .i64 te]) (by simp [results, Try.results35, go_sem, r0, r1, r2, r3]) rfl ?_
                    exact st_no HR.out (Below.drew ((((HB2.out.setCell (by simp; omega) _).setCell (by simp; omega) _).setCell (by simp; omega) _).setCell (by simp; omega) _))
              | true =>
                rw [hrk] at c2l
                have HTk := Lib.hid (show (vAt S.vals k, ([] : List Ms), true, (0 : Int)) = T k by rw [HTT.out]; unfold turnS; rw [hrk, hbk]; rfl)
                obtain ⟨tv, htv⟩ : ∃ tv, tv = vAt S.vals k := ⟨_, rfl⟩
                rw [← htv] at HTk HQ2
                clear htv
                go_upto_region 17 with fail
                obtain ⟨W7, hW7⟩ : ∃ W7, W7 = W2 := ⟨_, rfl⟩
                rw [← hW7] at HQ2 HB2 ⊢
                clear hW7 c2l s2
                obtain ⟨AT, cT, tm, tb, te, hq7, ht7⟩ : ∃ AT cT tm tb te, Rq w6 bo (S.step + 1) V cV R cR (valsL T k) (restL T k) bt #[.int .i64 tv, .slice AT (List.length tm) cT, .bool tb, .int .i64 te] AS cS (sentL T k) AT cT tm W7 ∧ (tv, tm, tb, te) = T k := ⟨none, 0, [], true, 0, HQ2.out, HTk.out⟩
                have HQ7 := Lib.hid hq7
                have HT := Lib.hid ht7
                clear hq7 ht7 HQ2 HB2 HTk HF3
                have HTV := Lib.hid (show valsL T (k + 1) = valsL T k ++ [tv] by rw [valsL_succ, ← HT.out])
                have HTB := Lib.hid (show restL T (k + 1) = restL T k ++ [tb] by rw [restL_succ, ← HT.out])
                have HTS := Lib.hid (show sentL T (k + 1) = sentL T k ++ tm by rw [sentL_succ, ← HT.out])
                have HSL := Lib.hid (show (sentL T k).length ≤ 80 * k from sentL_len T (fun v => by rw [HTT.out]; exact turnS_len ..) k)
                have HML := Lib.hid (show tm.length ≤ 80 by have := turnS_len N es p s l q S k; rw [← HTT.out, ← HT.out] at this; exact this)
                have v0 := cell_of_row W7 bt 0 _ 87 (0, 0) HQ7.out.t
                have v1 := cell_of_row W7 bt 1 _ 87 (0, 0) HQ7.out.t
                have v2 := cell_of_row W7 bt 2 _ 87 (0, 0) HQ7.out.t
                have v3 := cell_of_row W7 bt 3 _ 87 (0, 0) HQ7.out.t
                by_cases he : te = 0
                · subst he
                  have HER := Lib.hid (show errL T (k + 1) = 0 from firstE_ok HE.out (by show (T k).2.2.2 = 0; rw [← HT.out]))
                  have o1 := HQ7.out.p.c1
                  rw [valsL_len] at o1
                  have oa : (W7.alloc (.cells #[.int .i64 tv] 2)).cell? ⟨bo, 1, none⟩ = some (.slice V k cV) := (World.cell?_alloc_lt W7 _ _ HQ7.out.p.lt).trans o1
                  have HQ8 := Lib.hid (HQ7.out.next (below_alloc W7 (.cells #[.int .i64 tv] 2)))
                  have HV8 := Lib.hid HQ8.out.p.v
                  rw [valsL_len] at HV8
                  go_wp2_with (at_builtin; go_must (refine wpList_app2 _ rfl (.tmp 86) (.tmp 89) 27 rfl w6.heap.size 2 iv _ 1 8 Try.underlying27 IV.out ZV.out SV.out BV.out rfl (by decide) V k cV (vc (valsL T k)) rfl HV8.out (W7.heap.size + 1) (some ⟨W7.heap.size, 0, none⟩) 1 1 (vc [tv]) rfl (lies_v W7 _) (vc_one _) (k + 1) (vc (valsL T k) ++ vc [tv]) rfl rfl (by unfold maxLen; omega) (by omega) HQ8.out.p.bl.size ?_))
                  intro A9 c9 w9 ho9 hb9 hg9
                  obtain ⟨hq9, t9, f9⟩ := HQ8.out.putV (x := tv) (by rw [valsL_len]; exact ho9) hb9 (by rw [valsL_len]; exact hg9)
                  rw [valsL_len] at hq9 t9
                  have HQ9 := Lib.hid hq9
                  clear hq9 ho9 hb9 hg9 HV8 HQ8 HQ7 o1 oa v0 v1 v2 v3
                  go_upto_region 20 with fail
                  generalize w9.setCell ⟨bo, 1, none⟩ (.slice A9 (k + 1) c9) = W9 at HQ9 ⊢
                  clear t9 f9
                  have v1 := cell_of_row W9 bt 1 _ 87 (0, 0) HQ9.out.t
                  have v2 := cell_of_row W9 bt 2 _ 87 (0, 0) HQ9.out.t
                  have o2 := HQ9.out.p.c2
                  rw [restL_len] at o2
                  have oa : (W9.alloc (.cells #[.bool tb] 4)).cell? ⟨bo, 2, none⟩ = some (.slice R k cR) := (World.cell?_alloc_lt W9 _ _ HQ9.out.p.lt).trans o2
                  have HQa := Lib.hid (HQ9.out.next (below_alloc W9 (.cells #[.bool tb] 4)))
                  have HRa := Lib.hid HQa.out.p.r
                  rw [restL_len] at HRa
                  go_wp2_with (at_builtin; go_must (refine wpList_app2 _ rfl (.tmp 93) (.tmp 96) 28 rfl w6.heap.size 4 ir _ 1 1 Try.underlying28 IR.out ZR.out SR.out BR.out rfl (by decide) R k cR (rc (restL T k)) rfl HRa.out (W9.heap.size + 1) (some ⟨W9.heap.size, 0, none⟩) 1 1 (rc [tb]) rfl (lies_r W9 _) (rc_one _) (k + 1) (rc (restL T k) ++ rc [tb]) rfl rfl (by unfold maxLen; omega) (by omega) HQa.out.p.bl.size ?_))
                  intro Ab cb wb hob hbb hgb
                  obtain ⟨hqb, tb9, fb9⟩ := HQa.out.putR (x := tb) (by rw [restL_len]; exact hob) hbb (by rw [restL_len]; exact hgb)
                  rw [restL_len] at hqb tb9
                  have HQb := Lib.hid hqb
                  clear hqb hob hbb hgb HRa HQa HQ9 o2 oa v1 v2
                  go_upto_region 21 with fail
                  generalize wb.setCell ⟨bo, 2, none⟩ (.slice Ab (k + 1) cb) = Wb at HQb ⊢
                  clear tb9 fb9
                  have v1 := cell_of_row Wb bt 1 _ 87 (0, 0) HQb.out.t
                  go_wp2_with (at_builtin; go_must (refine wpList_app2 _ rfl (.tmp 99) (.tmp 101) 29 rfl w6.heap.size 57 i0 _ 2 16 Try.underlying29 HI0.out HZ0.out HZS.out HZB.out rfl (by decide) AS (sentL T k).length cS (mc (sentL T k)) rfl HQb.out.so Wb.heap.size AT tm.length cT (mc tm) rfl (Lies.of_own HQb.out.st) (mc_one _) (sentL T k ++ tm).length (mc (sentL T k ++ tm)) (by rw [List.length_append]) (by rw [mc_append]) (by have := HSL.out; have := HML.out; rw [List.length_append]; unfold maxLen; omega) (by have := HSL.out; have := HML.out; rw [List.length_append]; omega) HQb.out.p.bl.size ?_))
                  intro Ac cc wc' hoc hbc hgc
                  have HPc := Lib.hid (HQb.out.p.grown HQb.out.so hgc)
                  have HOc := Lib.hid hoc
                  clear hoc hbc hgc HQb v1
                  go_wp2_with fail
                  go_roundw
                  case rel => exact ⟨k + 1, Ac, cc, A9, c9, Ab, cb, by go_num, by omega, by rw [HTS.out, List.length_append], by rw [HTS.out, List.length_append]; exact HOc.out, by rw [HTV.out, HTB.out]; exact HPc.out, HER.out⟩
                  case measure => simp [intOf]; omega
                · have HR := Lib.hid (show stepR N es p s l q S = (noSt, te) by
                    have e1 : errL T N.toNat = te := (firstE_bad (f := fun v => (T v).2.2.2) HE.out (by rw [← HV.out]; exact hkv) (by show ¬ (T k).2.2.2 = 0; rw [← HT.out]; exact he)).trans (by show (T k).2.2.2 = te; rw [← HT.out])
                    rw [HSR.out]
                    unfold superR; rw [← HTT.out, e1, if_neg he])
                  have he1 : (te != 0) = true := by simpa using he
                  have z2 := H4.out W7 (HB6.out.trans (HQ7.out.p.bl.mono HB6.out.size))
                  have r0 := cell_of_row W7 _ 0 _ 31 (0, 0) z2
                  have f0 := unfrozen z2 0
                  have r1 := cell_of_row W7 _ 1 _ 31 (0, 0) z2
                  have f1 := unfrozen z2 1
                  have r2 := cell_of_row W7 _ 2 _ 31 (0, 0) z2
                  have f2 := unfrozen z2 2
                  have r3 := cell_of_row W7 _ 3 _ 31 (0, 0) z2
                  have f3 := unfrozen z2 3
                  have HB2 := Lib.hid (HBS.out.next (HB6.out.trans (HQ7.out.p.bl.mono HB6.out.size))).x.bl
                  have hbtr : bt ≠ w.heap.size + 1 + 1 + 1 := by have := lt_of_block (H4.out w4 (Below.refl _ _)); have := HB6.out.size; have := HBT.out; omega
                  have v3' : ((((W7.setCell ⟨w.heap.size + 1 + 1 + 1, 0, none⟩ (.int .i64 0)).setCell ⟨w.heap.size + 1 + 1 + 1, 1, none⟩ (.slice none 0 0)).setCell ⟨w.heap.size + 1 + 1 + 1, 2, none⟩ (.slice none 0 0)).setCell ⟨w.heap.size + 1 + 1 + 1, 3, none⟩ (.slice none 0 0)).cell? ⟨bt, 3, none⟩ = some (.int .i64 te) := by
                    refine (World.cell?_of_block (w := W7) ?_).trans v3
                    rw [Below.heap_setCell _ _ _ _ hbtr, Below.heap_setCell _ _ _ _ hbtr, Below.heap_setCell _ _ _ _ hbtr, Below.heap_setCell _ _ _ _ hbtr]
                  clear z2 he HQ7 v0 v1 v2 hbtr
                  go_wp2_with fail
                  go_region
                  all_goals
                    go_wp2_with fail
                    refine bodyPost_ret (v := .tuple #[.agg #[.int .i64 0, .slice none 0 0, .slice none 0 0, .slice none 0 0], .int .i64 te]) (by simp [results, Try.results35, go_sem, r0, r1, r2, r3]) rfl ?_
                    exact st_no HR.out (Below.drew ((((HB2.out.setCell (by simp; omega) _).setCell (by simp; omega) _).setCell (by simp; omega) _).setCell (by simp; omega) _))
          · have hk' : k = S.vals.length := by omega
            subst hk'
            have hkN : ¬ ((S.vals.length : Int) < N) := by have := HNV.out; omega
            have HSL := Lib.hid (show (sentL T S.vals.length).length ≤ 80 * S.vals.length from sentL_len T (fun v => by rw [HTT.out]; exact turnS_len ..) _)
            have HBD := Lib.hid (show ∀ e ∈ sentL T S.vals.length, bd e.2 by rw [HTT.out]; exact sentL_bd HS.out.ok _)
            have hk24 : S.vals.length ≤ 24 := by have := HNV.out; omega
            have j0 := HXW.out.x.j0
            have g0 := HXW.out.x.g0
            go_wp2_with fail
            refine (rfdf_any p AS (sentL T S.vals.length).length cS (sentL T S.vals.length) _ (Lies.of_own HO.out) (by have := HSL.out; omega) HBD.out).mono ?_
            rintro e w8 ⟨AF, cF, rfl, hoF, hbF⟩
            have HP8 := Lib.hid (HP.out.next hbF)
            have HOF := Lib.hid (hoF.lower (base' := w6.heap.size) HP.out.bl.size)
            have HB8 := Lib.hid (HB6.out.trans (HP8.out.bl.mono HB6.out.size))
            have HBW8 := Lib.hid (HBS.out.next HB8.out).x.bl
            have HFR := Lib.hid (show stepR N es p s l q S = if fdC p (sentL T S.vals.length) = 0 then (⟨S.step + 1, valsL T S.vals.length, restL T S.vals.length, fdR p (sentL T S.vals.length)⟩, 0) else (noSt, fdC p (sentL T S.vals.length)) by
              rw [HSR.out]; unfold superR; rw [← HTT.out, ← HV.out, if_pos HE.out])
            have hlt4 := lt_of_block (H4.out w4 (Below.refl _ _))
            have hl46 := HB6.out.size
            clear hoF hbF j0 g0 HP HO HXW hkN hkv
            by_cases hf : fdC p (sentL T S.vals.length) = 0
            · rw [hf]
              have HR := Lib.hid (HFR.out.trans (if_pos hf))
              clear hf HFR
              generalize fdR p (sentL T S.vals.length) = ms at *
              have nb := HP8.out.nb
              rw [valsL_len, restL_len] at nb
              have n0 := cell_of_row w8 bo 3 _ 31 (0, 0) nb
              have n1 := unfrozen nb 3
              have hz : (w8.setCell ⟨bo, 3, none⟩ (.slice AF ms.length cF)).heap[bo]? = some (.cells #[.int .i64 (S.step + 1), .slice V S.vals.length cV, .slice R S.vals.length cR, .slice AF ms.length cF] 31 (0, 0)) := set_heap nb _
              have hzr : (w8.setCell ⟨bo, 3, none⟩ (.slice AF ms.length cF)).heap[w.heap.size + 1 + 1 + 1]? = some (.cells #[.int .i64 0, .slice none 0 0, .slice none 0 0, .slice none 0 0] 31) := by
                rw [Below.heap_setCell _ _ _ _ (by have := HP8.out.hb; simp; omega)]
                exact H4.out w8 HB8.out
              have HV7 := Lib.hid (ownsRow_setCell_other HP8.out.v (a := ⟨bo, 3, none⟩) (own_ne HP8.out.v nb (by decide)) (.slice AF ms.length cF))
              have HR7 := Lib.hid (ownsRow_setCell_other HP8.out.r (a := ⟨bo, 3, none⟩) (own_ne HP8.out.r nb (by decide)) (.slice AF ms.length cF))
              have HM7 := Lib.hid (ownsRow_setCell_other HOF.out (a := ⟨bo, 3, none⟩) (own_ne HOF.out nb (by decide)) (.slice AF ms.length cF))
              have HB7 := Lib.hid (HBW8.out.setCell (p := ⟨bo, 3, none⟩) (Nat.le_trans HBW.out.size HP8.out.hb) (.slice AF ms.length cF))
              go_upto_region 26 with fail
              generalize w8.setCell ⟨bo, 3, none⟩ (.slice AF ms.length cF) = W7 at hz hzr HV7 HR7 HM7 HB7 ⊢
              have b0 := cell_of_row W7 _ 0 _ 31 (0, 0) hz
              have b1 := cell_of_row W7 _ 1 _ 31 (0, 0) hz
              have b2 := cell_of_row W7 _ 2 _ 31 (0, 0) hz
              have b3 := cell_of_row W7 _ 3 _ 31 (0, 0) hz
              have r0 := cell_of_row W7 _ 0 _ 31 (0, 0) hzr
              have f0 := unfrozen hzr 0
              have r1 := cell_of_row W7 _ 1 _ 31 (0, 0) hzr
              have f1 := unfrozen hzr 1
              have r2 := cell_of_row W7 _ 2 _ 31 (0, 0) hzr
              have f2 := unfrozen hzr 2
              have r3 := cell_of_row W7 _ 3 _ 31 (0, 0) hzr
              have f3 := unfrozen hzr 3
              clear nb n0 n1 hz hzr HP8 HOF
              go_wp2_with fail
              refine bodyPost_ret (v := .tuple #[.agg #[.int .i64 (S.step + 1), .slice V S.vals.length cV, .slice R S.vals.length cR, .slice AF ms.length cF], .int .i64 0]) (by simp [results, Try.results35, go_sem, r0, r1, r2, r3]) rfl ?_
              rw [HR.out]
              have hbr : w.heap.size + 1 + 1 + 1 < w6.heap.size := by omega
              refine ⟨(((HB7.out.setCell (by simp; omega) _).setCell (by simp; omega) _).setCell (by simp; omega) _).setCell (by simp; omega) _, V, cV, R, cR, AF, cF, by dsimp only; rw [valsL_len, restL_len], ?_, (Fr.own HV7.out).low HBW.out.size, (Fr.own HR7.out).low HBW.out.size, (Fr.own HM7.out).low HBW.out.size⟩
              have hv8 := ownsRow_setCell_below (ownsRow_setCell_below (ownsRow_setCell_below (ownsRow_setCell_below HV7.out (a := ⟨w.heap.size + 1 + 1 + 1, 0, none⟩) hbr (.int .i64 (S.step + 1))) (a := ⟨w.heap.size + 1 + 1 + 1, 1, none⟩) hbr (.slice V S.vals.length cV)) (a := ⟨w.heap.size + 1 + 1 + 1, 2, none⟩) hbr (.slice R S.vals.length cR)) (a := ⟨w.heap.size + 1 + 1 + 1, 3, none⟩) hbr (.slice AF ms.length cF)
              have hr8 := ownsRow_setCell_below (ownsRow_setCell_below (ownsRow_setCell_below (ownsRow_setCell_below HR7.out (a := ⟨w.heap.size + 1 + 1 + 1, 0, none⟩) hbr (.int .i64 (S.step + 1))) (a := ⟨w.heap.size + 1 + 1 + 1, 1, none⟩) hbr (.slice V S.vals.length cV)) (a := ⟨w.heap.size + 1 + 1 + 1, 2, none⟩) hbr (.slice R S.vals.length cR)) (a := ⟨w.heap.size + 1 + 1 + 1, 3, none⟩) hbr (.slice AF ms.length cF)
              have hm8 := ownsRow_setCell_below (ownsRow_setCell_below (ownsRow_setCell_below (ownsRow_setCell_below HM7.out (a := ⟨w.heap.size + 1 + 1 + 1, 0, none⟩) hbr (.int .i64 (S.step + 1))) (a := ⟨w.heap.size + 1 + 1 + 1, 1, none⟩) hbr (.slice V S.vals.length cV)) (a := ⟨w.heap.size + 1 + 1 + 1, 2, none⟩) hbr (.slice R S.vals.length cR)) (a := ⟨w.heap.size + 1 + 1 + 1, 3, none⟩) hbr (.slice AF ms.length cF)
              have hok : Ok (stepR N es p s l q S).1 := step_ok HS.out.ok
              rw [HR.out] at hok
              exact ⟨Lies.of_own hv8, Lies.of_own hr8, Lies.of_own hm8, own_cap hv8, own_cap hr8, own_cap hm8, hok⟩
            · have HR := Lib.hid (HFR.out.trans (if_neg hf))
              have he1 : (fdC p (sentL T S.vals.length) != 0) = true := by simpa using hf
              have z2 := H4.out w8 HB8.out
              have r0 := cell_of_row w8 _ 0 _ 31 (0, 0) z2
              have f0 := unfrozen z2 0
              have r1 := cell_of_row w8 _ 1 _ 31 (0, 0) z2
              have f1 := unfrozen z2 1
              have r2 := cell_of_row w8 _ 2 _ 31 (0, 0) z2
              have f2 := unfrozen z2 2
              have r3 := cell_of_row w8 _ 3 _ 31 (0, 0) z2
              have f3 := unfrozen z2 3
              clear z2 hf HP8 HOF
              generalize fdC p (sentL T S.vals.length) = te at *
              go_wp2_with fail
              refine bodyPost_ret (v := .tuple #[.agg #[.int .i64 0, .slice none 0 0, .slice none 0 0, .slice none 0 0], .int .i64 te]) (by simp [results, Try.results35, go_sem, r0, r1, r2, r3]) rfl ?_
              exact st_no HR.out ((((HBW8.out.setCell (by simp; omega) _).setCell (by simp; omega) _).setCell (by simp; omega) _).setCell (by simp; omega) _)
    | false =>
      have HR := Lib.hid (show stepR N es p s l q S = (noSt, 1) by unfold stepR; rw [if_pos HJ.out, hr]; rfl)
      have z2 := H4.out w6 HB6.out
      have r0 := cell_of_row w6 _ 0 _ 31 (0, 0) z2
      have f0 := unfrozen z2 0
      have r1 := cell_of_row w6 _ 1 _ 31 (0, 0) z2
      have f1 := unfrozen z2 1
      have r2 := cell_of_row w6 _ 2 _ 31 (0, 0) z2
      have f2 := unfrozen z2 2
      have r3 := cell_of_row w6 _ 3 _ 31 (0, 0) z2
      have f3 := unfrozen z2 3
      clear z2 hr hx
      go_wp2_with fail
      refine bodyPost_ret (v := .tuple #[.agg #[.int .i64 0, .slice none 0 0, .slice none 0 0, .slice none 0 0], .int .i64 1]) (by simp [results, Try.results35, go_sem, r0, r1, r2, r3]) rfl ?_
      exact st_no HR.out ((((HBW.out.setCell (by simp; omega) _).setCell (by simp; omega) _).setCell (by simp; omega) _).setCell (by simp; omega) _)
  · have HR := Lib.hid (show stepR N es p s l q S = (noSt, jchk N es p s l q) by unfold stepR; rw [if_neg hj])
    have hj1 : (jchk N es p s l q != 0) = true := by simpa using hj
    have z2 := H4.out w5 HB5.out
    have r0 := cell_of_row w5 _ 0 _ 31 (0, 0) z2
    have f0 := unfrozen z2 0
    have r1 := cell_of_row w5 _ 1 _ 31 (0, 0) z2
    have f1 := unfrozen z2 1
    have r2 := cell_of_row w5 _ 2 _ 31 (0, 0) z2
    have f2 := unfrozen z2 2
    have r3 := cell_of_row w5 _ 3 _ 31 (0, 0) z2
    have f3 := unfrozen z2 3
    clear z2 hj hx hb5
    go_wp2_with fail
    refine bodyPost_ret (v := .tuple #[.agg #[.int .i64 0, .slice none 0 0, .slice none 0 0, .slice none 0 0], .int .i64 (jchk N es p s l q)]) (by simp [results, Try.results35, go_sem, r0, r1, r2, r3]) rfl ?_
    exact st_no HR.out ((((HB.out.setCell (by simp; omega) _).setCell (by simp; omega) _).setCell (by simp; omega) _).setCell (by simp; omega) _)

end Go.Proofs.Ytkmflofokgkekaa
