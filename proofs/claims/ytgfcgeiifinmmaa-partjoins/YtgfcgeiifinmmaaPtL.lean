/-
  The contract of the document's own Join. No condition but that the numbers are not too many.
-/
import Derived.Test.YtgfcgeiifinmmaaPtK
import Derived.Test.YtgfcgeiifinmmaaPtF
import Derived.Deep.RegionLaw
import Derived.BigRegion
import Derived.BigQuiet
import Derived.Deep.Cut
import Derived.Deep.DeepCutAuto
import Derived.Deep.RegionHeld3
namespace Go.Proofs.Ytgfcgeiifinmmaa
open Go.ChangeShapes Go.WideShapes Go.ChangeAt Go.RowKit
set_option linter.unusedVariables false

/-- The messages of the joined state, of the first k vertices. -/
def tJ (q : Nat) (L : List Pt) (k : Nat) : List Ms := (List.range k).flatMap fun (v : Nat) => (pAt L (v % q)).inn.filter fun m => m.1 == (v : Int)
theorem tJ_succ (q : Nat) (L : List Pt) (k : Nat) : tJ q L (k + 1) = tJ q L k ++ (pAt L (k % q)).inn.filter fun m => m.1 == (k : Int) := by unfold tJ; rw [List.range_succ, List.flatMap_append]; simp
theorem Jn.tJ {n q : Nat} {L : List Pt} (h : Jn n q L) (k : Nat) : (Ytgfcgeiifinmmaa.tJ q L k).length ≤ k * 24 := by
  induction k with
  | zero => unfold Ytgfcgeiifinmmaa.tJ; simp
  | succ k ih =>
    rw [tJ_succ, List.length_append]
    have h1 := List.length_filter_le (fun m : Ms => m.1 == (k : Int)) (pAt L (k % q)).inn
    have h2 := h.len24 (k := k % q) (Nat.mod_lt _ h.q1)
    omega
theorem Jn.tPerm {n q : Nat} {L : List Pt} (h : Jn n q L) : (Ytgfcgeiifinmmaa.tJ q L n).Perm (Ytgfcgeiifinmmaa.msJ L q) := by
  have := h.sorted (msort_perm (Ytgfcgeiifinmmaa.msJ L q)) (srt_to (msort_srt _))
  unfold Ytgfcgeiifinmmaa.tJ
  rw [← this]
  exact msort_perm _
section
variable {wb : World} {bo : Nat} {st : Int} {V : Option Addr} {cV : Nat} {R : Option Addr} {cR : Nat} {M : Option Addr} {cM : Nat} {vs : List Int} {rs : List Bool} {ms : List Ms} {W W' : World}
theorem Qs.boxV (h : Qs wb bo st V cV R cR M cM vs rs ms W) {b i : Nat} {T : TypeId} {cs : Array Value} {y : Value} (hb : W.heap[b]? = some (.cells cs T (0, 0))) (hT : T ≠ 2) (hn : b ≠ bo) (hg : W.grownBy W' (Value.slice V vs.length cV).ownBlock) : (W'.setCell ⟨bo, i, none⟩ y).heap[b]? = some (.cells cs T (0, 0)) := by
  rw [Below.heap_setCell _ _ _ _ hn]
  exact (hg.block _ (lt_of_block hb) (fun e1 => own_ne h.v hb hT e1.symm)).trans hb
theorem Qs.boxR (h : Qs wb bo st V cV R cR M cM vs rs ms W) {b i : Nat} {T : TypeId} {cs : Array Value} {y : Value} (hb : W.heap[b]? = some (.cells cs T (0, 0))) (hT : T ≠ 4) (hn : b ≠ bo) (hg : W.grownBy W' (Value.slice R rs.length cR).ownBlock) : (W'.setCell ⟨bo, i, none⟩ y).heap[b]? = some (.cells cs T (0, 0)) := by
  rw [Below.heap_setCell _ _ _ _ hn]
  exact (hg.block _ (lt_of_block hb) (fun e1 => own_ne h.r hb hT e1.symm)).trans hb
theorem Qs.boxM (h : Qs wb bo st V cV R cR M cM vs rs ms W) {b i : Nat} {T : TypeId} {cs : Array Value} {y : Value} (hb : W.heap[b]? = some (.cells cs T (0, 0))) (hT : T ≠ 61) (hn : b ≠ bo) (hg : W.grownBy W' (Value.slice M ms.length cM).ownBlock) : (W'.setCell ⟨bo, i, none⟩ y).heap[b]? = some (.cells cs T (0, 0)) := by
  rw [Below.heap_setCell _ _ _ _ hn]
  exact (hg.block _ (lt_of_block hb) (fun e1 => own_ne h.m hb hT e1.symm)).trans hb
end
def RjRel (n q : Nat) (ls : List Pe) (st : Int) (w6 : World) (bo : Nat) (i : Value) (W : World) : Prop := ∃ (k : Nat) (V : Option Addr) (cV : Nat) (R : Option Addr) (cR : Nat) (M : Option Addr) (cM : Nat), i = .int .i64 k ∧ k ≤ n ∧
  Hid (Qs w6 bo st V cV R cR M cM ((List.range k).map (jV q (ls.map Pe.x))) ((List.range k).map (jR q (ls.map Pe.x))) (tJ q (ls.map Pe.x) k) W)
def RkRel7 (S : St) (k : Nat) (st : Int) (w6 : World) (bo b : Nat) (cs : Array Value) (V : Option Addr) (cV : Nat) (R : Option Addr) (cR : Nat) (vs : List Int) (rs : List Bool) (t0 : List Ms) (i : Value) (W : World) : Prop := ∃ (j : Nat) (M : Option Addr) (cM : Nat), i = .int .i64 j ∧ j ≤ S.inn.length ∧
  Hid (Qs w6 bo st V cV R cR M cM vs rs (t0 ++ msV S k j) W) ∧ Hid (W.heap[b]? = some (.cells cs 36 (0, 0)))

set_option maxRecDepth 20000 in
set_option maxHeartbeats 4000000 in
theorem rjoin_any (N : Int) (A : Option Addr) (n c : Nat) (es : List Ed) (p s l q : Int) (D : Option Addr) (d : Nat) (ls : List Pe) (w : World)
    (hA : Lies w w.heap.size 3 A n (ec es)) (hnc : n ≤ c) (hn : n ≤ maxLen) (hD : Pls w w.heap.size D d ls) :
    Calls Try.prog 23 #[.agg #[.int .i64 N, .slice A n c], .agg #[.int .i64 p, .int .i64 s, .int .i64 l, .int .i64 q], .slice D ls.length d] w (StPost (joinR N es p s l q (ls.map Pe.x)) w) := by
  have mixed : Try.prog.follows .mixedOrders = true := by kernel_rfl
  obtain ⟨iv, hiv, hzv, hzsv, hzbv⟩ := info_parts (show (Try.prog.info? 2).map (fun i => (i.zero, i.size, i.bytes)) = some (some (.int .i64 0), 1, 8) by kernel_rfl)
  obtain ⟨ir, hir, hzr, hzsr, hzbr⟩ := info_parts (show (Try.prog.info? 4).map (fun i => (i.zero, i.size, i.bytes)) = some (some (.bool false), 1, 1) by kernel_rfl)
  obtain ⟨im, him, hzm, hzsm, hzbm⟩ := info_parts (show (Try.prog.info? 61).map (fun i => (i.zero, i.size, i.bytes)) = some (some (.agg #[.int .i64 0, .int .i64 0]), 2, 16) by kernel_rfl)
  have IV := Lib.hid hiv
  have ZV := Lib.hid hzv
  have SV := Lib.hid hzsv
  have BV := Lib.hid hzbv
  have IR := Lib.hid hir
  have ZR := Lib.hid hzr
  have SR := Lib.hid hzsr
  have BR := Lib.hid hzbr
  have IM := Lib.hid him
  have ZM := Lib.hid hzm
  have SM := Lib.hid hzsm
  have BM := Lib.hid hzbm
  clear hiv hzv hzsv hzbv hir hzr hzsr hzbr him hzm hzsm hzbm
  have HML := Lib.hid (show (ls.map Pe.x).length = ls.length from List.length_map ..)
  have hbx := (Bx.init w N A n c p s l q).alloc (.cells #[.int .i64 0, .slice none 0 0, .slice none 0 0, .slice none 0 0] 40)
  have HA := Lib.hid (hA.next hbx.bl)
  have HD := Lib.hid (hD.next hbx.bl)
  have HBX := Lib.hid hbx
  clear hbx hA hD
  go_enter Try.func23, Try.ntmps23
  go_wp2_with fail
  refine (rjcheck_any N A n c es p s l q _ HA.out hnc hn).mono ?_
  rintro e w5 ⟨rfl, hb5⟩
  have hx := HBX.out.next hb5
  have HT0 := Lib.hid (third w N A n c p s l q _ w5 hb5)
  have HT := Lib.hid (fun (W : World) (hb : Below w5.heap.size w5 W) => (hb.block _ HT0.out.2).trans HT0.out.1)
  have HB := Lib.hid hx.bl
  have HA5 := Lib.hid (HA.out.next hb5)
  have HD5 := Lib.hid (HD.out.next hb5)
  have HX := Lib.hid hx
  clear HA HD HBX hb5
  by_cases hj : jchk N es p s l q = 0
  · have HJ := Lib.hid hj
    have HN := Lib.hid (jchk_N hj)
    have HQ := Lib.hid (badJ_not (jchk_zero hj).2)
    rw [hj]
    clear hj
    have j3 := hx.j3
    clear hx
    by_cases hl : (ls.length : Int) = q
    · have HL := Lib.hid hl
      have hl' : ((ls.length : Int) != q) = false := by simpa using hl
      obtain ⟨a, ha⟩ : ∃ a : Nat, a = ls.length := ⟨_, rfl⟩
      have ha6 : 1 ≤ a ∧ a ≤ 6 := by have := HQ.out; omega
      have HLS := Lib.hid ha
      have HQA := Lib.hid (show q = (a : Int) by omega)
      have ha1 : a ≤ ls.length := by omega
      have ha2 : ls.length ≤ a := by omega
      clear hl ha
      go_wp2_with fail
      clear j3 hl'
      go_loopw [9] (fun i W => ToRel N es p s l q (ls.map Pe.x) a w5 i W) (fun i W => a - (intOf i).toNat)
      case atStart => exact ⟨0, rfl, Nat.zero_le _, Lib.hid (fun j hj => absurd hj (Nat.not_lt_zero _)), Below.refl _ _⟩
      case round =>
        obtain ⟨k, rfl, hk, HG, hb⟩ := hrel
        have HBW := Lib.hid hb
        have HBL := Lib.hid (HX.out.next hb).bl
        by_cases hkm : k < a
        · have hlt : k < ls.length := by omega
          have h0 : 0 < ls.length := by omega
          have hkl : (k : Int) < (ls.length : Int) := by omega
          have h0l : (0 : Int) < (ls.length : Int) := by omega
          have HDW := Lib.hid (HD5.out.next hb)
          have HAW := Lib.hid (HA5.out.next hb)
          obtain ⟨ad, rfl, _, x0, x1, x2, x3, x4⟩ := HDW.out.L.pe k hlt
          obtain ⟨ad', ea, _, _, y1, _, _, _⟩ := HDW.out.L.pe 0 h0
          injection ea with ea
          subst ea
          rw [Nat.zero_mul, Ytgfcgeiifinmmaa.add_zero] at y1
          have HSA := Lib.hid (HDW.out.at k hlt)
          have HGP := Lib.hid (good_p (N := N) (es := es) (p := p) (s := s) (l := l) (q := q) hlt)
          have HGS := Lib.hid (good_s (N := N) (es := es) (p := p) (s := s) (l := l) (q := q) hlt h0)
          have HGR := Lib.hid (good_r (N := N) (es := es) (p := p) (s := s) (l := l) (q := q) hlt h0)
          have HJB := Lib.hid (show goodB N es p s l q (ls.map Pe.x) k = false → joinR N es p s l q (ls.map Pe.x) = (noSt, 1) from fun h => by unfold joinR; rw [if_pos HJ.out, join_bad (k := k) (by rw [HML.out]; exact hlt) h]; rfl)
          generalize ls[0].S.step = st0 at *
          generalize ls[k].P = P at *
          generalize ls[k].S = S at *
          generalize ls[k].A1 = A1 at *
          generalize ls[k].A2 = A2 at *
          generalize ls[k].A3 = A3 at *
          generalize ls[k].c1 = c1 at *
          generalize ls[k].c2 = c2 at *
          generalize ls[k].c3 = c3 at *
          clear hb
          go_upto_region 9 with fail
          by_cases g1 : P = (k : Int)
          · by_cases g2 : S.step = st0
            · have g1' : (P != (k : Int)) = false := by simpa using g1
              have g2' : (S.step != st0) = false := by simpa using g2
              have HGO := Lib.hid (HGR.out g1 g2)
              have HK := Lib.hid (show ∀ (W : World) (a : Addr) (v : Value), Below wr.heap.size wr W → wr.cell? a = some v → W.cell? a = some v from fun W a v hb h => (hb.cell (p := a) (World.block_lt_of_cell? wr a h)).trans h)
              have CR := Lib.hid (fun (W : World) (hb : Below wr.heap.size wr W) => rpright_any N A n c es p s l q P S A1 c1 A2 c2 A3 c3 W (HAW.out.next hb) hnc hn (HSA.out.next hb))
              obtain ⟨z1, g0, g10, j0, j1, j2, j3, bl1⟩ := HX.out.next HBW.out
              clear z1 bl1 g1 g2
              have HF := Lib.hid (show ∀ W : World, Below wr.heap.size wr W → W.cell? ⟨w.heap.size, 0, none⟩ = some (.int .i64 N) ∧ W.cell? ⟨w.heap.size, 1, none⟩ = some (.slice A n c) ∧ W.cell? ⟨w.heap.size + 1, 0, none⟩ = some (.int .i64 p) ∧ W.cell? ⟨w.heap.size + 1, 1, none⟩ = some (.int .i64 s) ∧ W.cell? ⟨w.heap.size + 1, 2, none⟩ = some (.int .i64 l) ∧ W.cell? ⟨w.heap.size + 1, 3, none⟩ = some (.int .i64 q) ∧ W.cell? (ad.add (k * 5)) = some (.int .i64 P) ∧ W.cell? ⟨(ad.add (k * 5)).block, (ad.add (k * 5)).off + 1, none⟩ = some (.int .i64 S.step) ∧ W.cell? ⟨(ad.add (k * 5)).block, (ad.add (k * 5)).off + 2, none⟩ = some (.slice A1 S.vals.length c1) ∧ W.cell? ⟨(ad.add (k * 5)).block, (ad.add (k * 5)).off + 3, none⟩ = some (.slice A2 S.rest.length c2) ∧ W.cell? ⟨(ad.add (k * 5)).block, (ad.add (k * 5)).off + 4, none⟩ = some (.slice A3 S.inn.length c3) ∧ W.cell? ⟨ad.block, ad.off + 1, none⟩ = some (.int .i64 st0) ∧ Below wr.heap.size wr W by
                intro W hb
                exact ⟨HK.out _ _ _ hb g0, HK.out _ _ _ hb g10, HK.out _ _ _ hb j0, HK.out _ _ _ hb j1, HK.out _ _ _ hb j2, HK.out _ _ _ hb j3, HK.out _ _ _ hb x0, HK.out _ _ _ hb x1, HK.out _ _ _ hb x2, HK.out _ _ _ hb x3, HK.out _ _ _ hb x4, HK.out _ _ _ hb y1, hb⟩)
              have q0 := HF.out wr.drew (Below.refl _ _).drew
              generalize rightP N es p s l q (mkP P S) = br at CR HGO
              clear x0 x1 x2 x3 x4 y1 g0 g10 j0 j1 j2 j3
              go_cut [61] (fun s61 W => s61 = .bool (!br) ∧ Below wr.heap.size wr W)
              case first =>
                go_region_held3 (fun w' => w'.cell? ⟨w.heap.size, 0, none⟩ = some (.int .i64 N) ∧ w'.cell? ⟨w.heap.size, 1, none⟩ = some (.slice A n c) ∧ w'.cell? ⟨w.heap.size + 1, 0, none⟩ = some (.int .i64 p) ∧ w'.cell? ⟨w.heap.size + 1, 1, none⟩ = some (.int .i64 s) ∧ w'.cell? ⟨w.heap.size + 1, 2, none⟩ = some (.int .i64 l) ∧ w'.cell? ⟨w.heap.size + 1, 3, none⟩ = some (.int .i64 q) ∧ w'.cell? (ad.add (k * 5)) = some (.int .i64 P) ∧ w'.cell? ⟨(ad.add (k * 5)).block, (ad.add (k * 5)).off + 1, none⟩ = some (.int .i64 S.step) ∧ w'.cell? ⟨(ad.add (k * 5)).block, (ad.add (k * 5)).off + 2, none⟩ = some (.slice A1 S.vals.length c1) ∧ w'.cell? ⟨(ad.add (k * 5)).block, (ad.add (k * 5)).off + 3, none⟩ = some (.slice A2 S.rest.length c2) ∧ w'.cell? ⟨(ad.add (k * 5)).block, (ad.add (k * 5)).off + 4, none⟩ = some (.slice A3 S.inn.length c3) ∧ w'.cell? ⟨ad.block, ad.off + 1, none⟩ = some (.int .i64 st0) ∧ Below wr.heap.size wr w')
                  (first | exact q1 | exact q0)
                  (first | ((go_at_call 17); (with_reducible refine (CR.out _ (by first | exact q1.2.2.2.2.2.2.2.2.2.2.2.2 | exact q0.2.2.2.2.2.2.2.2.2.2.2.2)).mono ?_); rintro e w5 ⟨rfl, hb2⟩; have q1 := HF.out w5 (((by first | exact q1.2.2.2.2.2.2.2.2.2.2.2.2 | exact q0.2.2.2.2.2.2.2.2.2.2.2.2) : Below wr.heap.size wr _).trans (hb2.mono (((by first | exact q1.2.2.2.2.2.2.2.2.2.2.2.2 | exact q0.2.2.2.2.2.2.2.2.2.2.2.2) : Below wr.heap.size wr _)).size))))
                go_wp2_with fail
                go_meet
                exact ⟨rfl, q1.2.2.2.2.2.2.2.2.2.2.2.2⟩
              case rest =>
                obtain ⟨rfl, hb5⟩ := hcut
                have HB5 := Lib.hid (HBW.out.trans (hb5.mono HBW.out.size))
                have HBE := Lib.hid (HX.out.next HB5.out).bl
                clear hb5 q0
                cases br with
                | true =>
                  go_wp2_with fail
                  go_roundw
                  case rel => exact ⟨k + 1, by go_num, by omega, Lib.hid (fun j hj => by
                    rcases Nat.lt_succ_iff_lt_or_eq.1 hj with h | rfl
                    · exact HG.out j h
                    · exact HGO.out), HB5.out⟩
                  case measure => simp [intOf]; omega
                | false =>
                  have HR := Lib.hid (HJB.out HGO.out)
                  have z2 := HT.out wc HB5.out
                  have r0 := cell_of_row wc _ 0 _ 40 (0, 0) z2
                  have f0 := unfrozen z2 0
                  have r1 := cell_of_row wc _ 1 _ 40 (0, 0) z2
                  have f1 := unfrozen z2 1
                  have r2 := cell_of_row wc _ 2 _ 40 (0, 0) z2
                  have f2 := unfrozen z2 2
                  have r3 := cell_of_row wc _ 3 _ 40 (0, 0) z2
                  have f3 := unfrozen z2 3
                  clear z2
                  go_wp2_with fail
                  refine bodyPost_ret (v := .tuple #[.agg #[.int .i64 0, .slice none 0 0, .slice none 0 0, .slice none 0 0], .int .i64 1]) (by simp [results, Try.results23, go_sem, r0, r1, r2, r3]) rfl ?_
                  exact st_no HR.out ((((HBE.out.setCell (by simp; omega) _).setCell (by simp; omega) _).setCell (by simp; omega) _).setCell (by simp; omega) _)
            · have g1' : (P != (k : Int)) = false := by simpa using g1
              have g2' : (S.step != st0) = true := by simpa using g2
              have HR := Lib.hid (HJB.out (HGS.out g2))
              clear g1 g2
              go_quiet (fail)
              have z2 := HT.out wr HBW.out
              have r0 := cell_of_row wr _ 0 _ 40 (0, 0) z2
              have f0 := unfrozen z2 0
              have r1 := cell_of_row wr _ 1 _ 40 (0, 0) z2
              have f1 := unfrozen z2 1
              have r2 := cell_of_row wr _ 2 _ 40 (0, 0) z2
              have f2 := unfrozen z2 2
              have r3 := cell_of_row wr _ 3 _ 40 (0, 0) z2
              have f3 := unfrozen z2 3
              clear z2
              go_wp2_with fail
              refine bodyPost_ret (v := .tuple #[.agg #[.int .i64 0, .slice none 0 0, .slice none 0 0, .slice none 0 0], .int .i64 1]) (by simp [results, Try.results23, go_sem, r0, r1, r2, r3]) rfl ?_
              exact st_no HR.out (((((below_to_drewN HBL.out nq).setCell (by simp; omega) _).setCell (by simp; omega) _).setCell (by simp; omega) _).setCell (by simp; omega) _)
          · have g1' : (P != (k : Int)) = true := by simpa using g1
            have HR := Lib.hid (HJB.out (HGP.out g1))
            clear g1
            go_quiet (fail)
            have z2 := HT.out wr HBW.out
            have r0 := cell_of_row wr _ 0 _ 40 (0, 0) z2
            have f0 := unfrozen z2 0
            have r1 := cell_of_row wr _ 1 _ 40 (0, 0) z2
            have f1 := unfrozen z2 1
            have r2 := cell_of_row wr _ 2 _ 40 (0, 0) z2
            have f2 := unfrozen z2 2
            have r3 := cell_of_row wr _ 3 _ 40 (0, 0) z2
            have f3 := unfrozen z2 3
            clear z2
            go_wp2_with fail
            refine bodyPost_ret (v := .tuple #[.agg #[.int .i64 0, .slice none 0 0, .slice none 0 0, .slice none 0 0], .int .i64 1]) (by simp [results, Try.results23, go_sem, r0, r1, r2, r3]) rfl ?_
            exact st_no HR.out (((((below_to_drewN HBL.out nq).setCell (by simp; omega) _).setCell (by simp; omega) _).setCell (by simp; omega) _).setCell (by simp; omega) _)
        · have hk' : k = a := by omega
          subst hk'
          have HJT := Lib.hid (join_good (N := N) (es := es) (p := p) (s := s) (l := l) (L := ls.map Pe.x) (by rw [HML.out]; exact HL.out) (fun j hj => HG.out j (by rw [HML.out, ← HLS.out] at hj; exact hj)))
          have HJN := Lib.hid (Jn.of HJ.out HJT.out)
          have HR := Lib.hid (show joinR N es p s l q (ls.map Pe.x) = (joinS N.toNat q.toNat (ls.map Pe.x), 0) by unfold joinR; rw [if_pos HJ.out, if_pos HJT.out])
          obtain ⟨m, hm⟩ : ∃ m : Nat, N.toNat = m := ⟨_, rfl⟩
          have HNM := Lib.hid (show N = (m : Int) by have := HN.out; omega)
          rw [show q.toNat = k by rw [HQA.out]; rfl, hm] at HJN HR
          clear hm HG HJT hkm hk
          have hm24 : m ≤ 24 := HJN.out.n24
          have h0l : (0 : Int) < (ls.length : Int) := by omega
          have hkf : ¬ ((k : Int) < (ls.length : Int)) := by omega
          have HDW := Lib.hid (HD5.out.next hb)
          obtain ⟨ad, rfl, k1, k2, y1, k3, k4, k5⟩ := HDW.out.L.pe 0 (by omega)
          clear k1 k2 k3 k4 k5
          rw [Nat.zero_mul, Ytgfcgeiifinmmaa.add_zero] at y1
          have HST := Lib.hid (show ls[0].S.step = (pAt (ls.map Pe.x) 0).step by rw [pAt_pe ls 0 (by omega)]; rfl)
          have HSTB := Lib.hid ((HDW.out.at 0 (by omega)).ok.st)
          obtain ⟨st, hst⟩ : ∃ st, ls[0].S.step = st := ⟨_, rfl⟩
          rw [hst] at y1 HST HSTB
          have HX6 := Lib.hid (HX.out.next hb)
          have HT6 := Lib.hid (show wr.heap[w.heap.size + 1 + 1]? = some (.cells #[.int .i64 0, .slice none 0 0, .slice none 0 0, .slice none 0 0] 40) ∧ w.heap.size + 1 + 1 < wr.heap.size from ⟨HT.out wr hb, Nat.lt_of_lt_of_le HT0.out.2 hb.size⟩)
          have HB6 := Lib.hid HX6.out.bl
          clear hst hb HA5 HD5 HX HT0 HT HB HBW HBL
          have HQ0 := Lib.hid (Qs.start wr st)
          go_upto_region 12 with fail
          clear y1
          obtain ⟨w6, hw6⟩ : ∃ w6, w6 = wr := ⟨_, rfl⟩
          rw [← hw6] at HQ0 HT6 HX6 HB6 HDW ⊢
          clear hw6
          obtain ⟨bo, hbo⟩ : ∃ b, b = w6.heap.size := ⟨_, rfl⟩
          generalize w6.alloc (.cells #[.int .i64 st, .slice none 0 0, .slice none 0 0, .slice none 0 0] 40) = W7 at HQ0 ⊢
          rw [← hbo] at HQ0 ⊢
          have HBO := Lib.hid hbo
          clear hbo
          go_wp2_with fail
          go_loopw [11] (fun i W => RjRel m k ls st w6 bo i W) (fun i W => m - (intOf i).toNat)
          case atStart => exact ⟨0, none, 0, none, 0, none, 0, rfl, Nat.zero_le _, HQ0⟩
          case round =>
            clear HQ0
            obtain ⟨v, V, cV, R, cR, M, cM, rfl, hv, HQV⟩ := hrel
            have HXW := Lib.hid (HX6.out.next HQV.out.bl)
            have g0 := HXW.out.g0
            by_cases hvm : v < m
            · have hvN : (v : Int) < N := by have := HNM.out; omega
              obtain ⟨z, hz⟩ : ∃ z, v % k = z := ⟨_, rfl⟩
              obtain ⟨y, hy⟩ : ∃ y, v / k = y := ⟨_, rfl⟩
              have hzk : z < k := by rw [← hz]; exact Nat.mod_lt _ (by omega)
              have hlt : z < ls.length := by have := HLS.out; omega
              have hzl : (z : Int) < (ls.length : Int) := by omega
              have hmod : (v : Int) % q = (z : Int) := by rw [HQA.out, ← hz, Int.natCast_emod]
              have hdiv : (v : Int) / q = (y : Int) := by rw [HQA.out, ← hy, Int.natCast_ediv]
              have hdiv2 : (v : Int).tdiv q = (y : Int) := by rw [Int.tdiv_eq_ediv_of_nonneg (by omega)]; exact hdiv
              have hwy : IntKind.i64.wrap (y : Int) = (y : Int) := by have h1 : y ≤ 24 := by { rw [← hy]; exact Nat.le_trans (Nat.div_le_self _ _) (by omega) }; rw [IntKind.wrap_i64]; omega
              have hwz : IntKind.i64.wrap (z : Int) = (z : Int) := by have h1 : z ≤ 24 := by { rw [← hz]; exact Nat.le_trans (Nat.mod_le _ _) (by omega) }; rw [IntKind.wrap_i64]; omega
              have hq0 : q ≠ 0 := by have := HQ.out; omega
              have hq0' : 1 ≤ q := by have := HQ.out; omega
              have hy24 : y ≤ 24 := by rw [← hy]; exact Nat.le_trans (Nat.div_le_self _ _) (by omega)
              obtain ⟨ad', ea, k1, x0, x1, x2, x3, x4⟩ := (HDW.out.next HQV.out.bl).L.pe z hlt
              injection ea with ea
              subst ea
              have HSA := Lib.hid (fun (W : World) (hb : Below w6.heap.size w6 W) => (HDW.out.next hb).at z hlt)
              have HPK := Lib.hid (pAt_pe ls z hlt)
              clear k1
              generalize ls[z].P = P at *
              generalize ls[z].S = S at *
              generalize ls[z].A1 = A1 at *
              generalize ls[z].A2 = A2 at *
              generalize ls[z].A3 = A3 at *
              generalize ls[z].c1 = c1 at *
              generalize ls[z].c2 = c2 at *
              generalize ls[z].c3 = c3 at *
              have hyv : y < S.vals.length := by have := HJN.out.all hzk v hvm hz; rw [HPK.out, hy] at this; exact this
              have hyr : y < S.rest.length := by have h1 := HJN.out.vl z hzk; have h2 := HJN.out.rl z hzk; rw [HPK.out] at h1 h2; have h1' : S.vals.length = _ := h1; have h2' : S.rest.length = _ := h2; omega
              have hyv' : (y : Int) < (S.vals.length : Int) := by omega
              have hyr' : (y : Int) < (S.rest.length : Int) := by omega
              have hil : S.inn.length ≤ 24 := by have := HJN.out.len24 hzk; rw [HPK.out] at this; exact this
              have HTV := Lib.hid (show (List.range (v + 1)).map (jV k (ls.map Pe.x)) = (List.range v).map (jV k (ls.map Pe.x)) ++ [vAt S.vals y] by rw [List.range_succ, List.map_append]; show _ ++ [jV k (ls.map Pe.x) v] = _; unfold jV; rw [hz, hy, HPK.out]; rfl)
              have HTR := Lib.hid (show (List.range (v + 1)).map (jR k (ls.map Pe.x)) = (List.range v).map (jR k (ls.map Pe.x)) ++ [rAt S.rest y] by rw [List.range_succ, List.map_append]; show _ ++ [jR k (ls.map Pe.x) v] = _; unfold jR; rw [hz, hy, HPK.out]; rfl)
              have HTM := Lib.hid (show tJ k (ls.map Pe.x) (v + 1) = tJ k (ls.map Pe.x) v ++ msV S v S.inn.length by rw [tJ_succ, hz, HPK.out]; unfold msV; rw [List.take_length]; rfl)
              have hvl1 : ((List.range v).map (jV k (ls.map Pe.x))).length ≤ 24 := by simp; omega
              have hrl1 : ((List.range v).map (jR k (ls.map Pe.x))).length ≤ 24 := by simp; omega
              have hml1 : (tJ k (ls.map Pe.x) v).length ≤ 576 := by have := HJN.out.tJ v; omega
              generalize (List.range v).map (jV k (ls.map Pe.x)) = vs at *
              generalize (List.range v).map (jR k (ls.map Pe.x)) = rs at *
              generalize tJ k (ls.map Pe.x) v = t0 at *
              clear hz hy
              have j3 := HXW.out.j3
              obtain ⟨b, hb⟩ : ∃ b, b = wr.heap.size := ⟨_, rfl⟩
              have HQ8 := Lib.hid (HQV.out.next (below_alloc wr (.cells #[.int .i64 P, .int .i64 S.step, .slice A1 S.vals.length c1, .slice A2 S.rest.length c2, .slice A3 S.inn.length c3] 36)))
              have HBK := Lib.hid (show (wr.alloc (.cells #[.int .i64 P, .int .i64 S.step, .slice A1 S.vals.length c1, .slice A2 S.rest.length c2, .slice A3 S.inn.length c3] 36)).heap[b]? = some (.cells #[.int .i64 P, .int .i64 S.step, .slice A1 S.vals.length c1, .slice A2 S.rest.length c2, .slice A3 S.inn.length c3] 36 (0, 0)) by rw [hb]; exact heap_alloc_new _ _)
              have HBN := Lib.hid (show b ≠ bo by rw [hb]; have := HQV.out.lt; omega)
              go_upto_region 16 with fail
              rw [← hb]
              clear hb
              generalize wr.alloc (.cells #[.int .i64 P, .int .i64 S.step, .slice A1 S.vals.length c1, .slice A2 S.rest.length c2, .slice A3 S.inn.length c3] 36) = w8 at HQ8 HBK ⊢
              clear x0 x1 x2 x3 x4 j3 g0 HXW HQV
              have HX8 := Lib.hid (HX6.out.next HQ8.out.bl)
              have j3 := HX8.out.j3
              have x2 : w8.cell? ⟨b, 2, none⟩ = some (.slice A1 S.vals.length c1) := cell_of_row w8 b 2 _ 36 (0, 0) HBK.out
              have HS8 := Lib.hid (HSA.out w8 HQ8.out.bl)
              obtain ⟨ad1, rfl, k1, e1⟩ := HS8.out.v.vs y hyv
              have v1 := HQ8.out.kV
              have HP7 := Lib.hid ((HQ8.out.next (below_alloc w8 (.cells #[.int .i64 (vAt S.vals y)] 2))).next (Below.refl _ (w8.alloc (.cells #[.int .i64 (vAt S.vals y)] 2))).drew)
              have HB7 := Lib.hid (show (w8.alloc (.cells #[.int .i64 (vAt S.vals y)] 2)).drew.heap[b]? = _ from ((below_alloc w8 (.cells #[.int .i64 (vAt S.vals y)] 2)).block _ (lt_of_block HBK.out)).trans HBK.out)
              have HL7 := Lib.hid (show Lies (w8.alloc (.cells #[.int .i64 (vAt S.vals y)] 2)).drew (w8.heap.size + 1) 1 (some ⟨w8.heap.size, 0, none⟩) 1 (vc [vAt S.vals y]) from lies_v w8 _)
              have HV7 := Lib.hid HP7.out.v
              have v2 : (w8.alloc (.cells #[.int .i64 (vAt S.vals y)] 2)).cell? ⟨bo, 1, none⟩ = some (.slice V vs.length cV) := HP7.out.kV
              clear k1 HX8
              go_cut [10] (fun s10 W => s10 = .pointer (some ⟨bo, 0, none⟩) ∧ ∃ A9 c9, Hid (Qs w6 bo st A9 c9 R cR M cM (vs ++ [vAt S.vals y]) rs t0 W) ∧ Hid (W.heap[b]? = some (.cells #[.int .i64 P, .int .i64 S.step, .slice (some ad1) S.vals.length c1, .slice A2 S.rest.length c2, .slice A3 S.inn.length c3] 36 (0, 0))))
              case first =>
                go_region_law (refine step_own1 rfl _ _ 32 rfl w6.heap.size 2 iv _ 1 8 Try.underlying32 IV.out ZV.out SV.out BV.out rfl (by decide) V vs.length cV (vc vs) (by simp [Act.eval]) HV7.out (w8.heap.size + 1) (some ⟨w8.heap.size, 0, none⟩) 1 1 (vc [vAt S.vals y]) (by simp [Act.eval]) HL7.out (vc_one _) (by unfold maxLen; omega) (by omega) HP7.out.bl.size ?_; intro A9 c9 w9 ho9 hb9 hg9; obtain ⟨hp9, t9, f9⟩ := HP7.out.putV (ys := [vAt S.vals y]) rfl ho9 hb9 hg9; have HP9 := Lib.hid hp9; have HB9 := Lib.hid (HP7.out.boxV (i := 1) (y := .slice A9 (vs.length + 1) c9) HB7.out (by decide) HBN.out hg9))
                all_goals
                  go_wp2_with fail
                  go_meet
                  exact ⟨rfl, A9, c9, HP9, HB9⟩
              case rest =>
                obtain ⟨rfl, A9, c9, HP9, HB9⟩ := hcut
                clear v1 v2 e1 x2 j3 HP7 HV7 HL7 HB7 HQ8 HBK HS8
                have HX8 := Lib.hid (HX6.out.next HP9.out.bl)
                have j3 := HX8.out.j3
                have x3 : wc.cell? ⟨b, 3, none⟩ = some (.slice A2 S.rest.length c2) := cell_of_row wc b 3 _ 36 (0, 0) HB9.out
                have HS8 := Lib.hid (HSA.out wc HP9.out.bl)
                obtain ⟨ad2, rfl, k1, e2⟩ := HS8.out.r.rs y hyr
                have v1 := HP9.out.kR
                have HP7 := Lib.hid ((HP9.out.next (below_alloc wc (.cells #[.bool (rAt S.rest y)] 4))).next (Below.refl _ (wc.alloc (.cells #[.bool (rAt S.rest y)] 4))).drew)
                have HB7 := Lib.hid (show (wc.alloc (.cells #[.bool (rAt S.rest y)] 4)).drew.heap[b]? = _ from ((below_alloc wc (.cells #[.bool (rAt S.rest y)] 4)).block _ (lt_of_block HB9.out)).trans HB9.out)
                have HL7 := Lib.hid (show Lies (wc.alloc (.cells #[.bool (rAt S.rest y)] 4)).drew (wc.heap.size + 1) 1 (some ⟨wc.heap.size, 0, none⟩) 1 (rc [rAt S.rest y]) from lies_r wc _)
                have HR7 := Lib.hid HP7.out.r
                have v2 : (wc.alloc (.cells #[.bool (rAt S.rest y)] 4)).cell? ⟨bo, 2, none⟩ = some (.slice R rs.length cR) := HP7.out.kR
                clear k1 HX8
                go_upto_region 17 with fail
                go_cut [10] (fun s10 W => s10 = .pointer (some ⟨bo, 0, none⟩) ∧ ∃ A8 c8, Hid (Qs w6 bo st A9 c9 A8 c8 M cM (vs ++ [vAt S.vals y]) (rs ++ [rAt S.rest y]) t0 W) ∧ Hid (W.heap[b]? = some (.cells #[.int .i64 P, .int .i64 S.step, .slice (some ad1) S.vals.length c1, .slice (some ad2) S.rest.length c2, .slice A3 S.inn.length c3] 36 (0, 0))))
                case first =>
                  go_region_law (refine step_own1 rfl _ _ 33 rfl w6.heap.size 4 ir _ 1 1 Try.underlying33 IR.out ZR.out SR.out BR.out rfl (by decide) R rs.length cR (rc rs) (by simp [Act.eval]) HR7.out (wc.heap.size + 1) (some ⟨wc.heap.size, 0, none⟩) 1 1 (rc [rAt S.rest y]) (by simp [Act.eval]) HL7.out (rc_one _) (by unfold maxLen; omega) (by omega) HP7.out.bl.size ?_; intro A8 c8 w8 ho8 hb8 hg8; obtain ⟨hp8, t8, f8⟩ := HP7.out.putR (ys := [rAt S.rest y]) rfl ho8 hb8 hg8; have HP8 := Lib.hid hp8; have HB8 := Lib.hid (HP7.out.boxR (i := 2) (y := .slice A8 (rs.length + 1) c8) HB7.out (by decide) HBN.out hg8))
                  all_goals
                    go_wp2_with fail
                    go_meet
                    exact ⟨rfl, A8, c8, HP8, HB8⟩
                case rest =>
                  obtain ⟨rfl, A8, c8, HP8, HB8⟩ := hcut
                  clear v1 v2 e2 x3 j3 HP7 HR7 HL7 HB7 HP9 HB9 HS8
                  go_wp2_with fail
                  go_loopw [13] (fun i W => RkRel7 S v st w6 bo b #[.int .i64 P, .int .i64 S.step, .slice (some ad1) S.vals.length c1, .slice (some ad2) S.rest.length c2, .slice A3 S.inn.length c3] A9 c9 A8 c8 (vs ++ [vAt S.vals y]) (rs ++ [rAt S.rest y]) t0 i W) (fun i W => S.inn.length - (intOf i).toNat)
                  case atStart => exact ⟨0, M, cM, rfl, Nat.zero_le _, by rw [show msV S v 0 = [] from rfl, List.append_nil]; exact HP8, HB8⟩
                  case round =>
                    obtain ⟨j, Y, cY, rfl, hj, HQJ, HBJ⟩ := hrel
                    clear HP8 HB8
                    have x4 : wr.cell? ⟨b, 4, none⟩ = some (.slice A3 S.inn.length c3) := cell_of_row wr b 4 _ 36 (0, 0) HBJ.out
                    have HSW := Lib.hid (HSA.out wr HQJ.out.bl)
                    by_cases hjm : j < S.inn.length
                    · have hjN : (j : Int) < (S.inn.length : Int) := by omega
                      obtain ⟨ad3, rfl, hadb3, e3, e4⟩ := HSW.out.m.ms j hjm
                      have hml := msV_len S v j
                      clear hadb3
                      by_cases he : (mAt S.inn j).1 = (v : Int)
                      · have HY := Lib.hid (msV_yes hjm he)
                        have he' : ((mAt S.inn j).1 == (v : Int)) = true := by simpa using he
                        clear he
                        generalize hms : t0 ++ msV S v j = ms at *
                        have hmsl : ms.length ≤ 700 := by rw [← hms, List.length_append]; omega
                        have HMS := Lib.hid hms
                        clear hms
                        have v1 := HQJ.out.kM
                        have HP7 := Lib.hid ((HQJ.out.next (below_alloc wr (.cells #[.int .i64 (mAt S.inn j).1, .int .i64 (mAt S.inn j).2] 61))).next (Below.refl _ (wr.alloc (.cells #[.int .i64 (mAt S.inn j).1, .int .i64 (mAt S.inn j).2] 61))).drew)
                        have HB7 := Lib.hid (show (wr.alloc (.cells #[.int .i64 (mAt S.inn j).1, .int .i64 (mAt S.inn j).2] 61)).drew.heap[b]? = _ from ((below_alloc wr (.cells #[.int .i64 (mAt S.inn j).1, .int .i64 (mAt S.inn j).2] 61)).block _ (lt_of_block HBJ.out)).trans HBJ.out)
                        have HL7 := Lib.hid (show Lies (wr.alloc (.cells #[.int .i64 (mAt S.inn j).1, .int .i64 (mAt S.inn j).2] 61)).drew (wr.heap.size + 1) 2 (some ⟨wr.heap.size, 0, none⟩) 1 (mc [mAt S.inn j]) from lies_cells wr (mc [mAt S.inn j]) 61 1 2 rfl)
                        have HM7 := Lib.hid HP7.out.m
                        have v2 : (wr.alloc (.cells #[.int .i64 (mAt S.inn j).1, .int .i64 (mAt S.inn j).2] 61)).cell? ⟨bo, 3, none⟩ = some (.slice Y ms.length cY) := HP7.out.kM
                        go_upto_region 22 with fail
                        go_region_law (refine step_own1 rfl _ _ 34 rfl w6.heap.size 61 im _ 2 16 Try.underlying34 IM.out ZM.out SM.out BM.out rfl (by decide) Y ms.length cY (mc ms) (by simp [Act.eval]) HM7.out (wr.heap.size + 1) (some ⟨wr.heap.size, 0, none⟩) 1 1 (mc [mAt S.inn j]) (by simp [Act.eval]) HL7.out (mc_one _) (by unfold maxLen; omega) (by omega) HP7.out.bl.size ?_; intro A7 c7 w7 ho7 hb7 hg7; obtain ⟨hp7, t7, f7⟩ := HP7.out.putM (ys := [mAt S.inn j]) rfl ho7 hb7 hg7; have HP8 := Lib.hid hp7; have HB8 := Lib.hid (HP7.out.boxM (i := 3) (y := .slice A7 (ms.length + 1) c7) HB7.out (by decide) HBN.out hg7))
                        all_goals
                          clear v1 v2 e3 e4 x4 HP7 HM7 HL7 HB7 HQJ HBJ HSW hp7 t7 f7 ho7 hb7 hg7
                          go_wp2_with fail
                          go_roundw
                          case rel => exact ⟨j + 1, A7, c7, by go_num, by omega, by rw [HY.out, ← List.append_assoc, HMS.out]; exact HP8, HB8⟩
                          case measure => simp [intOf]; omega
                      · have HY := Lib.hid (msV_no hjm he)
                        have he' : ((mAt S.inn j).1 == (v : Int)) = false := by simpa using he
                        clear he
                        go_wp2_with fail
                        go_roundw
                        case rel => exact ⟨j + 1, Y, cY, by go_num, by omega, by rw [HY.out]; exact HQJ, HBJ⟩
                        case measure => simp [intOf]; omega
                    · have hj' : j = S.inn.length := by omega
                      subst hj'
                      go_wp2_with fail
                      go_roundw
                      case rel => exact ⟨v + 1, A9, c9, A8, c8, Y, cY, by go_num, by omega, by rw [HTV.out, HTR.out, HTM.out]; exact HQJ⟩
                      case measure => simp [intOf]; omega
            · have hv' : v = m := by omega
              subst hv'
              have hvN : ¬ ((v : Int) < N) := by have := HNM.out; omega
              have HJS := Lib.hid (show joinS v k (ls.map Pe.x) = ⟨st, (List.range v).map (jV k (ls.map Pe.x)), (List.range v).map (jR k (ls.map Pe.x)), tJ k (ls.map Pe.x) v⟩ by rw [joinS_eq, ← HST.out]; rfl)
              have HOK := Lib.hid (join_ok HJN.out (fun e he => (HDW.out.el e he).ok) (show bd st from HSTB.out) HJN.out.tPerm)
              have b0 := HQV.out.c0
              have b1 := HQV.out.kV
              have b2 := HQV.out.kR
              have b3 := HQV.out.kM
              have z2 := (HQV.out.bl.block _ HT6.out.2).trans HT6.out.1
              have r0 := cell_of_row wr _ 0 _ 40 (0, 0) z2
              have f0 := unfrozen z2 0
              have r1 := cell_of_row wr _ 1 _ 40 (0, 0) z2
              have f1 := unfrozen z2 1
              have r2 := cell_of_row wr _ 2 _ 40 (0, 0) z2
              have f2 := unfrozen z2 2
              have r3 := cell_of_row wr _ 3 _ 40 (0, 0) z2
              have f3 := unfrozen z2 3
              have HLT := Lib.hid HT6.out.2
              have hne : ¬ w.heap.size + 1 + 1 = bo := by have := HQV.out.hb; have := HLT.out; omega
              have HBW := Lib.hid HXW.out.bl
              have HVR := Lib.hid HQV.out.v
              have HRR := Lib.hid HQV.out.r
              have HMR := Lib.hid HQV.out.m
              clear z2 HXW HQV
              generalize (List.range v).map (jV k (ls.map Pe.x)) = vs at *
              generalize (List.range v).map (jR k (ls.map Pe.x)) = rs at *
              generalize tJ k (ls.map Pe.x) v = ms at *
              go_wp2_with fail
              refine bodyPost_ret (v := .tuple #[.agg #[.int .i64 st, .slice V vs.length cV, .slice R rs.length cR, .slice M ms.length cM], .int .i64 0]) (by simp [results, Try.results23, go_sem, r0, r1, r2, r3]) rfl ?_
              have st8 := fun {e z m8 : Nat} {u : Value} {xs : List Value} (h : wr.ownsRow w6.heap.size e z u m8 xs) => ownsRow_setCell_below (ownsRow_setCell_below (ownsRow_setCell_below (ownsRow_setCell_below h (a := ⟨w.heap.size + 1 + 1, 0, none⟩) HLT.out (.int .i64 st)) (a := ⟨w.heap.size + 1 + 1, 1, none⟩) HLT.out (.slice V vs.length cV)) (a := ⟨w.heap.size + 1 + 1, 2, none⟩) HLT.out (.slice R rs.length cR)) (a := ⟨w.heap.size + 1 + 1, 3, none⟩) HLT.out (.slice M ms.length cM)
              rw [HR.out, HJS.out]
              refine ⟨(((HBW.out.setCell (by simp; omega) _).setCell (by simp; omega) _).setCell (by simp; omega) _).setCell (by simp; omega) _, V, cV, R, cR, M, cM, rfl, ?_, (Fr.own HVR.out).low HB6.out.size, (Fr.own HRR.out).low HB6.out.size, (Fr.own HMR.out).low HB6.out.size⟩
              exact ⟨Lies.of_own (st8 HVR.out), Lies.of_own (st8 HRR.out), Lies.of_own (st8 HMR.out), own_cap HVR.out, own_cap HRR.out, own_cap HMR.out, HOK.out⟩
    · have hl' : ((ls.length : Int) != q) = true := by simpa using hl
      have HR := Lib.hid (show joinR N es p s l q (ls.map Pe.x) = (noSt, 1) by unfold joinR; rw [if_pos HJ.out, join_len (by rw [HML.out]; exact hl)]; rfl)
      clear hl
      have z2 := HT0.out.1
      have r0 := cell_of_row w5 _ 0 _ 40 (0, 0) z2
      have f0 := unfrozen z2 0
      have r1 := cell_of_row w5 _ 1 _ 40 (0, 0) z2
      have f1 := unfrozen z2 1
      have r2 := cell_of_row w5 _ 2 _ 40 (0, 0) z2
      have f2 := unfrozen z2 2
      have r3 := cell_of_row w5 _ 3 _ 40 (0, 0) z2
      have f3 := unfrozen z2 3
      clear z2
      go_wp2_with fail
      refine bodyPost_ret (v := .tuple #[.agg #[.int .i64 0, .slice none 0 0, .slice none 0 0, .slice none 0 0], .int .i64 1]) (by simp [results, Try.results23, go_sem, r0, r1, r2, r3]) rfl ?_
      exact st_no HR.out ((((HB.out.setCell (by simp; omega) _).setCell (by simp; omega) _).setCell (by simp; omega) _).setCell (by simp; omega) _)
  · have HR := Lib.hid (show joinR N es p s l q (ls.map Pe.x) = (noSt, jchk N es p s l q) by unfold joinR; rw [if_neg hj])
    have hj1 : (jchk N es p s l q != 0) = true := by simpa using hj
    clear hj hx
    have z2 := HT0.out.1
    have r0 := cell_of_row w5 _ 0 _ 40 (0, 0) z2
    have f0 := unfrozen z2 0
    have r1 := cell_of_row w5 _ 1 _ 40 (0, 0) z2
    have f1 := unfrozen z2 1
    have r2 := cell_of_row w5 _ 2 _ 40 (0, 0) z2
    have f2 := unfrozen z2 2
    have r3 := cell_of_row w5 _ 3 _ 40 (0, 0) z2
    have f3 := unfrozen z2 3
    clear z2
    go_wp2_with fail
    refine bodyPost_ret (v := .tuple #[.agg #[.int .i64 0, .slice none 0 0, .slice none 0 0, .slice none 0 0], .int .i64 (jchk N es p s l q)]) (by simp [results, Try.results23, go_sem, r0, r1, r2, r3]) rfl ?_
    exact st_no HR.out ((((HB.out.setCell (by simp; omega) _).setCell (by simp; omega) _).setCell (by simp; omega) _).setCell (by simp; omega) _)
end Go.Proofs.Ytgfcgeiifinmmaa
