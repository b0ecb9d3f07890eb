/-
  The walk of PartWhole: each vertex is in one partition alone, each message came to one. No condition.
-/
import Derived.Test.YtgfcgeiifinmmaaPtN
import Derived.Test.YtgfcgeiifinmmaaPtO
import Derived.Test.YtgfcgeiifinmmaaLawC
import Derived.BigQuiet
import Derived.BigRegion
import Derived.Deep.RegionHeld3
import Derived.Deep.Cut
import Derived.Deep.DeepCutAuto
namespace Go.Proofs.Ytgfcgeiifinmmaa
open Go.ChangeShapes Go.WideShapes Go.ChangeAt Go.RowKit
set_option linter.unusedVariables false

/-- How many vertices the first k homes have. -/
def sumV (n q k : Nat) : Nat := ((List.range k).map fun j => (verts n q j).length).sum
theorem sumV_succ (n q k : Nat) : sumV n q (k + 1) = sumV n q k + (verts n q k).length := by unfold sumV; rw [List.range_succ, List.map_append, List.sum_append]; simp
theorem sumV_le (n q k : Nat) : sumV n q k ≤ k * n := by
  induction k with
  | zero => unfold sumV; simp
  | succ k ih =>
    rw [sumV_succ, Nat.succ_mul]
    have : (verts n q k).length ≤ n := by
      unfold verts
      have := List.length_filter_le (fun v => v % q == k) (List.range n)
      rwa [List.length_range] at this
    omega
/-- What is known of the partitions of a right state. -/
structure Sx (N : Int) (es : List Ed) (p s l q : Int) (S : St) (n a : Nat) (ls : List Pe) : Prop where
  q1 : 1 ≤ a
  q6 : a ≤ 6
  n24 : n ≤ 24
  len : ls.length = a
  P : ∀ k (h : k < ls.length), ls[k].P = k
  vl : ∀ k (h : k < ls.length), ls[k].S.vals = (verts n a k).map (vAt S.vals)
  inn : ∀ k (h : k < ls.length), ls[k].S.inn = S.inn.filter (toHome a k)
  right : ∀ k (h : k < ls.length), rightP N es p s l q (mkP ls[k].P ls[k].S) = true
  cnt : ∀ k (h : k < ls.length), cntI N es p s l q k = (ls[k].S.vals.length : Int)
theorem Sx.of {N : Int} {es : List Ed} {p s l q : Int} {S : St} (h : rightB N es p s l q S = true) {ls : List Pe} (hx : ls.map Pe.x = (List.range q.toNat).map (cutP N.toNat q.toNat S)) : Sx N es p s l q S N.toNat q.toNat ls := by
  have hj := (right_of h).1
  have hb := badJ_not (jchk_zero hj).2
  have hN := jchk_N hj
  have hl : ls.length = q.toNat := by have := congrArg List.length hx; simpa using this
  have key : ∀ k (hk : k < ls.length), mkP ls[k].P ls[k].S = cutP N.toNat q.toNat S k := fun k hk => by
    rw [← pAt_pe ls k hk, hx]
    exact split_len N es p s l q S k (by omega)
  have hf : ∀ k (hk : k < ls.length), ls[k].P = k ∧ ls[k].S.vals = (verts N.toNat q.toNat k).map (vAt S.vals) ∧ ls[k].S.inn = S.inn.filter (toHome q.toNat k) := fun k hk => by
    have := key k hk
    unfold mkP cutP at this
    injection this with e1 e2 e3 e4 e5
    exact ⟨e1, e3, e5⟩
  refine ⟨by omega, by omega, by omega, hl, fun k hk => (hf k hk).1, fun k hk => (hf k hk).2.1, fun k hk => (hf k hk).2.2, fun k hk => ?_, fun k hk => ?_⟩
  · rw [key k hk]; exact cut_right h k (by omega)
  · unfold cntI; rw [if_pos hj, (hf k hk).2.1, List.length_map, vertsI_eq (by omega) (by omega), Int.toNat_natCast]
/-- Where the messages of the first k partitions lie. -/
def leS (ls : List Pe) (k : Nat) : List Le := (ls.take k).map fun e => ⟨e.A3, e.c3, e.S.inn⟩
theorem leS_len (ls : List Pe) (k : Nat) (h : k ≤ ls.length) : (leS ls k).length = k := by unfold leS; rw [List.length_map, List.length_take]; omega
theorem leS_succ (ls : List Pe) (k : Nat) (h : k < ls.length) : leS ls (k + 1) = leS ls k ++ [⟨ls[k].A3, ls[k].c3, ls[k].S.inn⟩] := by
  unfold leS; rw [List.take_succ_eq_append_getElem h, List.map_append]; rfl
theorem Sx.perm {N : Int} {es : List Ed} {p s l q : Int} {S : St} {n a : Nat} {ls : List Pe} (h : Sx N es p s l q S n a ls) (h0 : ∀ m ∈ S.inn, 0 ≤ m.1) : (lcatl (leS ls ls.length)).Perm S.inn := by
  have e : lcatl (leS ls ls.length) = (List.range a).flatMap fun k => S.inn.filter (toHome a k) := by
    unfold lcatl leS
    rw [List.take_length, List.flatMap_def, List.flatMap_def]
    congr 1
    apply List.ext_getElem
    · simp [h.len]
    · intro i h1 h2
      have hi : i < ls.length := by simpa using h1
      simp only [List.getElem_map, List.getElem_range]
      exact h.inn i hi
  rw [e]
  exact cut_perm a h.q1 S.inn h0
def WhRel (ls : List Pe) (nn a : Nat) (w5 : World) (m o i : Value) (W : World) : Prop := ∃ (k : Nat) (D : Option Addr) (d : Nat), i = .int .i64 k ∧ k ≤ ls.length ∧ m = .int .i64 (sumV nn a k : Nat) ∧ o = .slice D k d ∧ Hid (W.ownsRow w5.heap.size 34 1 (.slice D k d) k (lcl (leS ls k))) ∧ Hid (Below w5.heap.size w5 W)
def WvRel (n : Nat) (w6 : World) (i : Value) (W : World) : Prop := ∃ k : Nat, i = .int .i64 k ∧ k ≤ n ∧ Below w6.heap.size w6 W
set_option maxRecDepth 20000 in
set_option maxHeartbeats 4000000 in
theorem whole_walk (N : Int) (A : Option Addr) (n c : Nat) (es : List Ed) (p s l q : Int) (S : St) (A1 : Option Addr) (c1 : Nat) (A2 : Option Addr) (c2 : Nat) (A3 : Option Addr) (c3 : Nat) (w : World) (hA : Lies w w.heap.size 3 A n (ec es)) (hnc : n ≤ c) (hn : n ≤ maxLen) (hS : StI w S A1 c1 A2 c2 A3 c3) :
    Calls Try.prog 8 #[.agg #[.int .i64 N, .slice A n c], .agg #[.int .i64 p, .int .i64 s, .int .i64 l, .int .i64 q], .agg #[.int .i64 S.step, .slice A1 S.vals.length c1, .slice A2 S.rest.length c2, .slice A3 S.inn.length c3]] w fun e w' => e = .returned (.bool true) ∧ Below w.heap.size w w' := by
  have mixed : Try.prog.follows .mixedOrders = true := by kernel_rfl
  obtain ⟨w3, hw3⟩ : ∃ w3, w3 = ((w.alloc (.cells #[.int .i64 N, .slice A n c] 24)).alloc (.cells #[.int .i64 p, .int .i64 s, .int .i64 l, .int .i64 q] 26)).alloc (.cells #[.int .i64 S.step, .slice A1 S.vals.length c1, .slice A2 S.rest.length c2, .slice A3 S.inn.length c3] 40) := ⟨_, rfl⟩
  have HBS := Lib.hid (show Bs w N A n c p s l q S A1 c1 A2 c2 A3 c3 w3 by rw [hw3]; exact Bs.init w N A n c p s l q S A1 c1 A2 c2 A3 c3)
  have HA := Lib.hid (hA.next HBS.out.x.bl)
  have HSI := Lib.hid hS
  clear hA hS
  go_enter Try.func8, Try.ntmps8
  go_wp2_with fail
  rw [← hw3]
  clear hw3
  by_cases hg : 200 < n
  · refine (great_any N A n c _ true (by simpa using hg)).mono ?_
    rintro e w1 ⟨rfl, hb1⟩
    have HB1 := Lib.hid (HBS.out.next hb1).x.bl
    clear hb1
    go_wp2_with fail
    refine (knows_any _).mono ?_
    rintro e wk ⟨rfl, hbk⟩
    have BK := Lib.hid (HB1.out.trans (hbk.mono HB1.out.size))
    clear hbk
    go_wp2_with fail
    go_ret
    exact ⟨rfl, BK.out⟩
  · refine (great_any N A n c _ false (by simpa using hg)).mono ?_
    rintro e w1 ⟨rfl, hb1⟩
    have HB0 := Lib.hid hb1
    have hx1 := HBS.out.next hb1
    have s0 := hx1.s0
    have s1 := hx1.s1
    have s2 := hx1.s2
    have s3 := hx1.s3
    clear hb1 hx1
    go_wp2_with fail
    refine (wide_any S A1 c1 A2 c2 A3 c3 _).mono ?_
    rintro e w2 ⟨rfl, hb2⟩
    have HB2 := Lib.hid (HB0.out.trans (hb2.mono HB0.out.size))
    have HBW := Lib.hid (HBS.out.next HB2.out).x.bl
    clear hb2 s0 s1 s2 s3
    cases hw : wideB S with
    | true =>
      clear hw
      go_wp2_with fail
      refine (knows_any _).mono ?_
      rintro e wk ⟨rfl, hbk⟩
      have BK := Lib.hid (HBW.out.trans (hbk.mono HBW.out.size))
      clear hbk
      go_wp2_with fail
      go_ret
      exact ⟨rfl, BK.out⟩
    | false =>
      have HSL := Lib.hid ((HSI.out.ok hw).next HBS.out.x.bl)
      clear hw
      have HX2 := Lib.hid (HBS.out.next HB2.out)
      have HA2 := Lib.hid (HA.out.next HB2.out)
      have HS2 := Lib.hid (HSL.out.next HB2.out)
      obtain ⟨⟨z1, g0, g1, j0, j1, j2, j3, bl1⟩, z2, s0, s1, s2, s3⟩ := id HX2.out
      clear z1 bl1 z2
      go_wp2_with fail
      refine (rright_any N A n c es p s l q S A1 c1 A2 c2 A3 c3 _ HA2.out hnc hn HS2.out).mono ?_
      rintro e w4 ⟨rfl, hb4⟩
      have HX4 := Lib.hid (HX2.out.next hb4)
      have HA4 := Lib.hid (HA2.out.next hb4)
      have HS4 := Lib.hid (HS2.out.next hb4)
      have HB4 := Lib.hid HX4.out.x.bl
      clear hb4 g0 g1 j0 j1 j2 j3 s0 s1 s2 s3 HX2 HA2 HS2
      cases hr : rightB N es p s l q S with
      | false =>
        clear hr
        go_wp2_with fail
        refine (knows_any _).mono ?_
        rintro e wk ⟨rfl, hbk⟩
        have BK := Lib.hid (HB4.out.trans (hbk.mono HB4.out.size))
        clear hbk
        go_wp2_with fail
        go_ret
        exact ⟨rfl, BK.out⟩
      | true =>
        have HR := Lib.hid hr
        have HRO := Lib.hid (right_of hr)
        have HSP := Lib.hid (show splitR N es p s l q S = ((List.range q.toNat).map (cutP N.toNat q.toNat S), 0) by unfold splitR; rw [if_pos (right_of hr).1, if_pos hr])
        have HTO := Lib.hid (ris_to N (-1) S.inn (right_of hr).2.2.2.2)
        have HJ := Lib.hid (badJ_not (jchk_zero (right_of hr).1).2)
        have HNN := Lib.hid (jchk_N (right_of hr).1)
        clear hr
        obtain ⟨⟨z1, g0, g1, j0, j1, j2, j3, bl1⟩, z2, s0, s1, s2, s3⟩ := id HX4.out
        clear z1 bl1 z2
        go_wp2_with fail
        refine (split_any N A n c es p s l q S A1 c1 A2 c2 A3 c3 _ HA4.out hnc hn HS4.out).mono ?_
        rw [HSP.out]
        rintro e w5 ⟨hb5, D, d, ls, rfl, hP, hx⟩
        have HX5 := Lib.hid (HX4.out.next hb5)
        have HA5 := Lib.hid (HA4.out.next hb5)
        have HS5 := Lib.hid (HS4.out.next hb5)
        have HP5 := Lib.hid hP
        have HSX := Lib.hid (Sx.of HR.out hx)
        clear hb5 hP hx g0 g1 j0 j1 j2 j3 s0 s1 s2 s3 HX4 HA4 HS4 HSP
        obtain ⟨a, ha⟩ : ∃ a : Nat, q.toNat = a := ⟨_, rfl⟩
        obtain ⟨m, hm⟩ : ∃ m : Nat, N.toNat = m := ⟨_, rfl⟩
        have HQA := Lib.hid (show q = (a : Int) by have := HJ.out; omega)
        have HNM := Lib.hid (show N = (m : Int) by have := HNN.out; omega)
        rw [ha, hm] at HSX
        clear ha hm
        have HLS := Lib.hid HSX.out.len
        have hl6 : ls.length ≤ 6 := by have := HSX.out.q6; have := HLS.out; omega
        have hl1 : 1 ≤ ls.length := by have := HSX.out.q1; have := HLS.out; omega
        have hm24 := HSX.out.n24
        obtain ⟨il, hil, hzl, hzsl, hzbl⟩ := info_parts (show (Try.prog.info? 34).map (fun i => (i.zero, i.size, i.bytes)) = some (some (.slice none 0 0), 1, 24) by kernel_rfl)
        have IL := Lib.hid hil
        have ZL := Lib.hid hzl
        have SL := Lib.hid hzsl
        have BL := Lib.hid hzbl
        clear hil hzl hzsl hzbl
        go_wp2_with fail
        go_loopw [9, 10, 11] (fun m' o i W => WhRel ls m a w5 m' o i W) (fun m' o i W => ls.length - (intOf i).toNat)
        case atStart => exact ⟨0, none, 0, rfl, Nat.zero_le _, rfl, rfl, Lib.hid (World.ownsRow_nil _ _ _ _), Lib.hid (Below.refl _ _)⟩
        case round =>
          obtain ⟨k, E, ec', rfl, hk, rfl, rfl, HO, HB⟩ := hrel
          have HXW := Lib.hid (HX5.out.next HB.out)
          have hsl : sumV m a k ≤ 144 := Nat.le_trans (sumV_le m a k) (Nat.le_trans (Nat.mul_le_mul (show k ≤ 6 by omega) hm24) (by omega))
          by_cases hlt : k < ls.length
          · have hkl : (k : Int) < (ls.length : Int) := by omega
            have HPW := Lib.hid (HP5.out.next HB.out)
            obtain ⟨ad, rfl, k1, x0, x1', x2', x3', x4'⟩ := HPW.out.L.pe k hlt
            have HST := Lib.hid (HPW.out.at k hlt)
            have HRT := Lib.hid (HSX.out.right k hlt)
            have HCT := Lib.hid (HSX.out.cnt k hlt)
            have HVL := Lib.hid (show ls[k].S.vals.length = (verts m a k).length by rw [HSX.out.vl k hlt, List.length_map])
            have HLE := Lib.hid (leS_succ ls k hlt)
            have hvl24 : ls[k].S.vals.length ≤ 24 := by rw [HVL.out]; unfold verts; have := List.length_filter_le (fun v => v % a == k) (List.range m); rw [List.length_range] at this; omega
            have HSU := Lib.hid (show sumV m a k + ls[k].S.vals.length = sumV m a (k + 1) by rw [sumV_succ, HVL.out])
            clear k1
            generalize ls[k].P = P at *
            generalize ls[k].S = T at *
            generalize ls[k].A1 = X1 at *
            generalize ls[k].A2 = X2 at *
            generalize ls[k].A3 = X3 at *
            generalize ls[k].c1 = x1 at *
            generalize ls[k].c2 = x2 at *
            generalize ls[k].c3 = x3 at *
            have HK := Lib.hid (show ∀ (W : World) (a : Addr) (v : Value), Below wr.heap.size wr W → wr.cell? a = some v → W.cell? a = some v from fun W a v hb h => (hb.cell (p := a) (World.block_lt_of_cell? wr a h)).trans h)
            have HAW := Lib.hid (HA5.out.next HB.out)
            have CC := Lib.hid (fun (W : World) (hb : Below wr.heap.size wr W) => count_any N A n c es p s l q k W (HAW.out.next hb) hnc hn)
            have CR := Lib.hid (fun (W : World) (hb : Below wr.heap.size wr W) => pright_any N A n c es p s l q P T X1 x1 X2 x2 X3 x3 W (HAW.out.next hb) hnc hn (HST.out.next hb))
            rw [HCT.out] at CC
            rw [HRT.out] at CR
            obtain ⟨⟨z1, g0, g1, j0, j1, j2, j3, bl1⟩, z2, s0, s1, s2, s3⟩ := id HXW.out
            clear z1 bl1 z2 s0 s1 s2 s3
            have HF := Lib.hid (show ∀ W : World, Below wr.heap.size wr W → W.cell? ⟨w.heap.size, 0, none⟩ = some (.int .i64 N) ∧ W.cell? ⟨w.heap.size, 1, none⟩ = some (.slice A n c) ∧ W.cell? ⟨w.heap.size + 1, 0, none⟩ = some (.int .i64 p) ∧ W.cell? ⟨w.heap.size + 1, 1, none⟩ = some (.int .i64 s) ∧ W.cell? ⟨w.heap.size + 1, 2, none⟩ = some (.int .i64 l) ∧ W.cell? ⟨w.heap.size + 1, 3, none⟩ = some (.int .i64 q) ∧ W.cell? (ad.add (k * 5)) = some (.int .i64 P) ∧ W.cell? ⟨(ad.add (k * 5)).block, (ad.add (k * 5)).off + 1, none⟩ = some (.int .i64 T.step) ∧ W.cell? ⟨(ad.add (k * 5)).block, (ad.add (k * 5)).off + 2, none⟩ = some (.slice X1 T.vals.length x1) ∧ W.cell? ⟨(ad.add (k * 5)).block, (ad.add (k * 5)).off + 3, none⟩ = some (.slice X2 T.rest.length x2) ∧ W.cell? ⟨(ad.add (k * 5)).block, (ad.add (k * 5)).off + 4, none⟩ = some (.slice X3 T.inn.length x3) ∧ Below wr.heap.size wr W by
              intro W hb
              exact ⟨HK.out _ _ _ hb g0, HK.out _ _ _ hb g1, HK.out _ _ _ hb j0, HK.out _ _ _ hb j1, HK.out _ _ _ hb j2, HK.out _ _ _ hb j3, HK.out _ _ _ hb x0, HK.out _ _ _ hb x1', HK.out _ _ _ hb x2', HK.out _ _ _ hb x3', HK.out _ _ _ hb x4', hb⟩)
            go_upto_region 12 with fail
            have q0 := HF.out wr.drew (Below.refl _ _).drew
            clear x0 x1' x2' x3' x4' g0 g1 j0 j1 j2 j3
            go_cut [71] (fun s71 W => s71 = .bool false ∧ Below wr.heap.size wr W)
            case first =>
              go_region_held3 (fun w' => w'.cell? ⟨w.heap.size, 0, none⟩ = some (.int .i64 N) ∧ w'.cell? ⟨w.heap.size, 1, none⟩ = some (.slice A n c) ∧ w'.cell? ⟨w.heap.size + 1, 0, none⟩ = some (.int .i64 p) ∧ w'.cell? ⟨w.heap.size + 1, 1, none⟩ = some (.int .i64 s) ∧ w'.cell? ⟨w.heap.size + 1, 2, none⟩ = some (.int .i64 l) ∧ w'.cell? ⟨w.heap.size + 1, 3, none⟩ = some (.int .i64 q) ∧ w'.cell? (ad.add (k * 5)) = some (.int .i64 P) ∧ w'.cell? ⟨(ad.add (k * 5)).block, (ad.add (k * 5)).off + 1, none⟩ = some (.int .i64 T.step) ∧ w'.cell? ⟨(ad.add (k * 5)).block, (ad.add (k * 5)).off + 2, none⟩ = some (.slice X1 T.vals.length x1) ∧ w'.cell? ⟨(ad.add (k * 5)).block, (ad.add (k * 5)).off + 3, none⟩ = some (.slice X2 T.rest.length x2) ∧ w'.cell? ⟨(ad.add (k * 5)).block, (ad.add (k * 5)).off + 4, none⟩ = some (.slice X3 T.inn.length x3) ∧ Below wr.heap.size wr w')
                (first | exact q1 | exact q0)
                (first | ((go_at_call 13); (with_reducible refine (CC.out _ (by first | exact q1.2.2.2.2.2.2.2.2.2.2.2 | exact q0.2.2.2.2.2.2.2.2.2.2.2)).mono ?_); rintro e w5 ⟨rfl, hb2⟩; have q1 := HF.out w5 (((by first | exact q1.2.2.2.2.2.2.2.2.2.2.2 | exact q0.2.2.2.2.2.2.2.2.2.2.2) : Below wr.heap.size wr _).trans (hb2.mono (((by first | exact q1.2.2.2.2.2.2.2.2.2.2.2 | exact q0.2.2.2.2.2.2.2.2.2.2.2) : Below wr.heap.size wr _)).size))) | ((go_at_call 16); (with_reducible refine (CR.out _ (by first | exact q1.2.2.2.2.2.2.2.2.2.2.2 | exact q0.2.2.2.2.2.2.2.2.2.2.2)).mono ?_); rintro e w5 ⟨rfl, hb2⟩; have q1 := HF.out w5 (((by first | exact q1.2.2.2.2.2.2.2.2.2.2.2 | exact q0.2.2.2.2.2.2.2.2.2.2.2) : Below wr.heap.size wr _).trans (hb2.mono (((by first | exact q1.2.2.2.2.2.2.2.2.2.2.2 | exact q0.2.2.2.2.2.2.2.2.2.2.2) : Below wr.heap.size wr _)).size))))
              go_wp2_with fail
              go_meet
              exact ⟨rfl, q1.2.2.2.2.2.2.2.2.2.2.2⟩
            case rest =>
              obtain ⟨rfl, hb6⟩ := hcut
              have HB6 := Lib.hid (HB.out.trans (hb6.mono HB.out.size))
              have HO6 := Lib.hid (own_next HO.out hb6)
              have x4' := (HF.out _ hb6).2.2.2.2.2.2.2.2.2.2.1
              clear hb6 q0 HF CC CR
              have HO7 := Lib.hid (own_next HO6.out (below_alloc wc (.cells #[.slice X3 T.inn.length x3] 34)))
              have HB7 := Lib.hid (HB6.out.trans ((below_alloc wc (.cells #[.slice X3 T.inn.length x3] 34)).mono HB6.out.size))
              have HL7 := Lib.hid (lies_cells wc (lcl [⟨X3, x3, T.inn⟩]) 34 1 1 rfl)
              go_wp2_with (at_builtin; go_must (refine wpList_app2 _ rfl (.tmp 72) (.tmp 78) 56 rfl w5.heap.size 34 il _ 1 24 Try.underlying56 IL.out ZL.out SL.out BL.out rfl (by decide) E k ec' (lcl (leS ls k)) rfl HO7.out (wc.heap.size + 1) (some ⟨wc.heap.size, 0, none⟩) 1 1 (lcl [⟨X3, x3, T.inn⟩]) rfl HL7.out (lcl_one _) (k + 1) (lcl (leS ls k) ++ lcl [⟨X3, x3, T.inn⟩]) rfl rfl (by unfold maxLen; omega) (by omega) HB7.out.size ?_))
              intro A9 c9 w9 ho9 hb9 hg9
              have HO9 := Lib.hid ho9
              have HB9 := Lib.hid (HB7.out.trans hb9)
              clear ho9 hb9 hg9 x4' HO7 HL7
              have hsum : (sumV m a k : Int) + (T.vals.length : Int) = ((sumV m a (k + 1) : Nat) : Int) := by rw [← HSU.out]; push_cast; rfl
              go_wp2_with fail
              go_roundw
              case rel => exact ⟨k + 1, A9, c9, by go_num, by omega, by first | rfl | (rw [← hsum]) | go_num, rfl, by rw [HLE.out, lcl_app]; exact HO9, HB9⟩
              case measure => simp [intOf]; omega
          · have hk' : k = ls.length := by omega
            subst hk'
            have HLL := Lib.hid (show Lls wr wr.heap.size E ec' (leS ls ls.length) from ⟨by rw [leS_len ls _ (Nat.le_refl _)]; exact Lies.of_own HO.out, by rw [leS_len ls _ (Nat.le_refl _)]; exact own_cap HO.out, fun e he => by
              unfold leS at he
              rw [List.take_length] at he
              obtain ⟨x, hx, rfl⟩ := List.mem_map.1 he
              exact ((HP5.out.next HB.out).el x hx).m⟩)
            have HPM := Lib.hid (HSX.out.perm (fun m hm => by have := HTO.out m hm; omega))
            have HSN := Lib.hid (show ((sumV m a ls.length : Nat) : Int) = N by rw [HNM.out, HLS.out]; have := verts_sum m a HSX.out.q1; unfold sumV; omega)
            have HAW := Lib.hid (HA5.out.next HB.out)
            have HSW := Lib.hid (HS5.out.next HB.out)
            have HPW := Lib.hid (HP5.out.next HB.out)
            have HBL := Lib.hid HXW.out.x.bl
            have g0 := HXW.out.x.g0
            obtain ⟨w6, hw6⟩ : ∃ w6, w6 = wr := ⟨_, rfl⟩
            rw [← hw6] at HLL HAW HSW HPW HXW HBL HO HB g0 ⊢
            clear hw6
            have hkf : ¬ ((ls.length : Int) < (ls.length : Int)) := by omega
            generalize hsv : sumV m a ls.length = sv at *
            clear hsv hlt hk
            go_wp2_with fail
            clear g0
            go_loopw [12] (fun i W => WvRel m w6 i W) (fun i W => m - (intOf i).toNat)
            case atStart => exact ⟨0, rfl, Nat.zero_le _, Below.refl _ _⟩
            case round =>
              obtain ⟨v, rfl, hv, hb⟩ := hrel
              have HBV := Lib.hid hb
              have HXV := Lib.hid (HXW.out.next hb)
              clear hb
              by_cases hvm : v < m
              · have hvN : (v : Int) < N := by have := HNM.out; omega
                obtain ⟨z, hz⟩ : ∃ z, v % a = z := ⟨_, rfl⟩
                obtain ⟨y, hy⟩ : ∃ y, v / a = y := ⟨_, rfl⟩
                have hza : z < a := by rw [← hz]; exact Nat.mod_lt _ HSX.out.q1
                have hzl : z < ls.length := by have := HLS.out; omega
                have hzl' : (z : Int) < (ls.length : Int) := by omega
                have hmod : (v : Int) % q = (z : Int) := by rw [HQA.out, ← hz, Int.natCast_emod]
                have hdiv : (v : Int) / q = (y : Int) := by rw [HQA.out, ← hy, Int.natCast_ediv]
                have hdiv2 : (v : Int).tdiv q = (y : Int) := by rw [Int.tdiv_eq_ediv_of_nonneg (by omega)]; exact hdiv
                have hwy : IntKind.i64.wrap (y : Int) = (y : Int) := by have h1 : y ≤ 24 := Nat.le_trans (hy ▸ Nat.div_le_self v a) (by omega); rw [IntKind.wrap_i64]; omega
                have hq0 : q ≠ 0 := by have := HJ.out; omega
                have hq1 : 1 ≤ q := by have := HJ.out; omega
                have HHY := Lib.hid (homeI_yes (q := q) (v := (v : Int)) (by omega) (by omega) (by have := HJ.out; omega))
                have HVZ := Lib.hid (show ∃ h : y < ls[z].S.vals.length, vAt ls[z].S.vals y = vAt S.vals v by
                  obtain ⟨h1, h2⟩ := verts_at (q := a) HSX.out.q1 HSX.out.q6 hvm
                  rw [hz, hy] at h1
                  have h3 : (verts m a z)[y] = v := by subst hz hy; exact h2
                  have h4 := HSX.out.vl z hzl
                  refine ⟨by rw [h4, List.length_map]; exact h1, ?_⟩
                  rw [h4, vAt_get _ _ (by rw [List.length_map]; exact h1), List.getElem_map, h3])
                have j0 := HXV.out.x.j0
                have j1 := HXV.out.x.j1
                have j2 := HXV.out.x.j2
                have j3 := HXV.out.x.j3
                have g0 := HXV.out.x.g0
                clear hz hy
                go_wp2_with fail
                refine (home_any p s l q v _).mono ?_
                rintro e w8 ⟨rfl, hb8⟩
                rw [HHY.out, hmod]
                have HB8 := Lib.hid (HBV.out.trans (hb8.mono HBV.out.size))
                clear j0 j1 j2 j3 g0 hb8
                have HX8 := Lib.hid (HXW.out.next HB8.out)
                obtain ⟨ad, rfl, k1, k2, k3, x2', k4, k5⟩ := (HPW.out.next HB8.out).L.pe z hzl
                have HT8 := Lib.hid ((HPW.out.next HB8.out).at z hzl)
                clear k1 k2 k3 k4 k5
                obtain ⟨hyl, hyv⟩ := HVZ.out
                obtain ⟨a1, ea1, k1, e1⟩ := HT8.out.v.vs y hyl
                obtain ⟨a0, ea0, k2, e0⟩ := (HSW.out.next HB8.out).v.vs v (by have := HRO.out; have := HNM.out; omega)
                rw [hyv] at e1
                have s1 := HX8.out.s1
                have j3 := HX8.out.x.j3
                rw [ea1] at x2'
                rw [ea0] at s1
                have hyl' : (y : Int) < (ls[z].S.vals.length : Int) := by omega
                have hvl' : (v : Int) < (S.vals.length : Int) := by have := HRO.out; omega
                have hzn : ¬ ((z : Int) < 0) := by omega
                clear k1 k2 hyv ea1 ea0 HVZ HT8
                generalize ls[z].S.vals.length = tl at *
                generalize ls[z].c1 = x1 at *
                generalize vAt S.vals v = xv at *
                go_upto_region 19 with fail
                go_quiet (fail)
                go_wp2_with fail
                go_roundw
                case rel => exact ⟨v + 1, by go_num, by omega, below_to_drewN HB8.out _⟩
                case measure => simp [intOf]; omega
              · have hv' : v = m := by omega
                subst hv'
                have hvN : ¬ ((v : Int) < N) := by have := HNM.out; omega
                have hsn : ((sv : Int) == N) = true := by rw [HSN.out]; simp
                have g0 := HXV.out.x.g0
                have s3 := HXV.out.s3
                obtain ⟨w7, hw7⟩ : ∃ w7, w7 = wr := ⟨_, rfl⟩
                rw [← hw7] at HBV HXV g0 s3 ⊢
                clear hw7
                obtain ⟨L0, hL0⟩ : ∃ L0, L0 = msort (lcatl (leS ls ls.length)) := ⟨_, rfl⟩
                have HL1 := Lib.hid (show msort S.inn = L0 by rw [hL0]; exact msort_of HPM.out.symm)
                have hlen : L0.length ≤ 1000000 := by rw [← HL1.out, msort_len]; exact HSW.out.ok.lm
                have C27 := Lib.hid (show ∀ W : World, Below w7.heap.size w7 W → Calls Try.prog 27 #[.slice E ls.length ec'] W (MlPost L0 W) from fun W hb => by
                  have h := mjoin_any E ec' (leS ls ls.length) W ((HLL.out.next HBV.out).next hb) (by rw [leS_len ls _ (Nat.le_refl _)]; omega) (by rw [HPM.out.length_eq]; exact HSW.out.ok.lm)
                  rw [leS_len ls _ (Nat.le_refl _), ← hL0] at h
                  exact h)
                have C28 := Lib.hid (show ∀ W : World, Below w7.heap.size w7 W → Calls Try.prog 28 #[.slice A3 S.inn.length c3] W (MlPost L0 W) from fun W hb => by
                  have h := rsort_any A3 S.inn.length c3 S.inn W ((HSW.out.next HBV.out).next hb).m HSW.out.ok.lm
                  rw [HL1.out] at h
                  exact h)
                have C26 := Lib.hid (show ∀ (W : World) (X : Option Addr) (x : Nat) (Y : Option Addr) (y : Nat), Lies W W.heap.size 2 X L0.length (mc L0) → Lies W W.heap.size 2 Y L0.length (mc L0) → Calls Try.prog 26 #[.slice X L0.length x, .slice Y L0.length y] W fun e w' => e = .returned (.bool true) ∧ Below W.heap.size W w' from fun W X x Y y hX hY => by
                  have h := sameM_any X L0.length x L0 Y L0.length y L0 W hX hY hlen hlen
                  rw [decide_eq_true rfl] at h
                  exact h)
                have C10 := Lib.hid (fun (W : World) (hb : Below w7.heap.size w7 W) => knows_any W)
                have HF := Lib.hid (show ∀ W : World, Below w7.heap.size w7 W → W.cell? ⟨w.heap.size, 0, none⟩ = some (.int .i64 N) ∧ W.cell? ⟨w.heap.size + 1 + 1, 3, none⟩ = some (.slice A3 S.inn.length c3) ∧ Below w7.heap.size w7 W from fun W hb => ⟨(HXV.out.next hb).x.g0, (HXV.out.next hb).s3, hb⟩)
                have q0 := HF.out w7.drew (Below.refl _ _).drew
                clear hL0
                go_upto_region 21 with fail
                clear g0 s3
                go_region_held3 (fun w' => w'.cell? ⟨w.heap.size, 0, none⟩ = some (.int .i64 N) ∧ w'.cell? ⟨w.heap.size + 1 + 1, 3, none⟩ = some (.slice A3 S.inn.length c3) ∧ Below w7.heap.size w7 w')
                  (first | exact qk | exact qm | exact qs | exact qj | exact q0)
                  (first | ((go_at_call 27); (with_reducible refine (C27.out _ (by first | exact qs.2.2 | exact q0.2.2)).mono ?_); rintro e wj ⟨A5, c5, rfl, ho5, hb5⟩; have qj := HF.out wj (((by first | exact qs.2.2 | exact q0.2.2) : Below w7.heap.size w7 _).trans (hb5.mono (((by first | exact qs.2.2 | exact q0.2.2) : Below w7.heap.size w7 _)).size))) | ((go_at_call 28); (with_reducible refine (C28.out _ (by first | exact qj.2.2 | exact q0.2.2)).mono ?_); rintro e ws ⟨A6, c6, rfl, ho6, hb6⟩; have qs := HF.out ws (((by first | exact qj.2.2 | exact q0.2.2) : Below w7.heap.size w7 _).trans (hb6.mono (((by first | exact qj.2.2 | exact q0.2.2) : Below w7.heap.size w7 _)).size))) | ((go_at_call 26); (with_reducible refine (C26.out _ A5 c5 A6 c6 (by first | exact (Lies.of_own ho5).next hb6 | exact Lies.of_own ho5) (by first | exact Lies.of_own ho6 | exact (Lies.of_own ho6).next hb5)).mono ?_); rintro e wm ⟨rfl, hb7⟩; have qm := HF.out wm (((by first | exact qs.2.2 | exact qj.2.2) : Below w7.heap.size w7 _).trans (hb7.mono (((by first | exact qs.2.2 | exact qj.2.2) : Below w7.heap.size w7 _)).size))) | ((go_at_call 10); (with_reducible refine (C10.out _ (by first | exact qm.2.2)).mono ?_); rintro e wk ⟨rfl, hb9⟩; have qk := HF.out wk (((by first | exact qm.2.2) : Below w7.heap.size w7 _).trans (hb9.mono (((by first | exact qm.2.2) : Below w7.heap.size w7 _)).size))))
                all_goals
                  go_wp2_with fail
                  go_ret
                  exact ⟨rfl, (HXV.out.next qk.2.2).x.bl⟩
end Go.Proofs.Ytgfcgeiifinmmaa
