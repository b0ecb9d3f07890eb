import Derived.Test.YtpgdddjjjfkneaaGreatDoorPtD
import Derived.Deep.OwnRows
import Derived.Laws.OwnMore
/-
  Words for a list of partitions in memory; the contract of part.Split. No condition but that the numbers are not too many.
-/
namespace Go.Proofs.YtpgdddjjjfkneaaGreatDoor
open Go.ChangeShapes Go.WideShapes Go.ChangeAt Go.RowKit
set_option linter.unusedVariables false

/-- A partition, and where its lists lie. -/
structure Pe where
  P : Int
  S : St
  A1 : Option Addr
  c1 : Nat
  A2 : Option Addr
  c2 : Nat
  A3 : Option Addr
  c3 : Nat
def Pe.x (e : Pe) : Pt := mkP e.P e.S
def Pe.cells (e : Pe) : List Value := [.int .i64 e.P, .int .i64 e.S.step, .slice e.A1 e.S.vals.length e.c1, .slice e.A2 e.S.rest.length e.c2, .slice e.A3 e.S.inn.length e.c3]
def noPe : Pe := ⟨0, noSt, none, 0, none, 0, none, 0⟩
def pc (ls : List Pe) : List Value := ls.flatMap Pe.cells
theorem pc_cons (e : Pe) (r : List Pe) : pc (e :: r) = .int .i64 e.P :: .int .i64 e.S.step :: .slice e.A1 e.S.vals.length e.c1 :: .slice e.A2 e.S.rest.length e.c2 :: .slice e.A3 e.S.inn.length e.c3 :: pc r := rfl
theorem pc_app (a b : List Pe) : pc (a ++ b) = pc a ++ pc b := by unfold pc; simp
theorem pc_at (ls : List Pe) (k : Nat) (h : k < ls.length) : (pc ls)[k * 5]? = some (.int .i64 ls[k].P) ∧ (pc ls)[k * 5 + 1]? = some (.int .i64 ls[k].S.step) ∧ (pc ls)[k * 5 + 2]? = some (.slice ls[k].A1 ls[k].S.vals.length ls[k].c1) ∧ (pc ls)[k * 5 + 3]? = some (.slice ls[k].A2 ls[k].S.rest.length ls[k].c2) ∧ (pc ls)[k * 5 + 4]? = some (.slice ls[k].A3 ls[k].S.inn.length ls[k].c3) := by
  induction ls generalizing k with
  | nil => simp at h
  | cons e r ih =>
    cases k with
    | zero => simp [pc_cons]
    | succ k =>
      have := ih k (by simpa using h)
      have e0 : (k + 1) * 5 = k * 5 + 1 + 1 + 1 + 1 + 1 := by omega
      have e1 : (k + 1) * 5 + 1 = (k * 5 + 1) + 1 + 1 + 1 + 1 + 1 := by omega
      have e2 : (k + 1) * 5 + 2 = (k * 5 + 2) + 1 + 1 + 1 + 1 + 1 := by omega
      have e3 : (k + 1) * 5 + 3 = (k * 5 + 3) + 1 + 1 + 1 + 1 + 1 := by omega
      have e4 : (k + 1) * 5 + 4 = (k * 5 + 4) + 1 + 1 + 1 + 1 + 1 := by omega
      rw [e1, e2, e3, e4, e0, pc_cons]
      exact this
theorem pc_set (ls : List Pe) (k : Nat) (e : Pe) : (((((pc ls).set (k * 5) (.int .i64 e.P)).set (k * 5 + 1) (.int .i64 e.S.step)).set (k * 5 + 2) (.slice e.A1 e.S.vals.length e.c1)).set (k * 5 + 3) (.slice e.A2 e.S.rest.length e.c2)).set (k * 5 + 4) (.slice e.A3 e.S.inn.length e.c3) = pc (ls.set k e) := by
  induction ls generalizing k with
  | nil => rfl
  | cons x r ih =>
    cases k with
    | zero => rfl
    | succ k =>
      have e0 : (k + 1) * 5 = k * 5 + 1 + 1 + 1 + 1 + 1 := by omega
      have e1 : (k + 1) * 5 + 1 = (k * 5 + 1) + 1 + 1 + 1 + 1 + 1 := by omega
      have e2 : (k + 1) * 5 + 2 = (k * 5 + 2) + 1 + 1 + 1 + 1 + 1 := by omega
      have e3 : (k + 1) * 5 + 3 = (k * 5 + 3) + 1 + 1 + 1 + 1 + 1 := by omega
      have e4 : (k + 1) * 5 + 4 = (k * 5 + 4) + 1 + 1 + 1 + 1 + 1 := by omega
      rw [e1, e2, e3, e4, e0]
      show _ = pc (x :: r.set k e)
      rw [pc_cons, pc_cons, ← ih k]
      rfl
/-- A list of partitions lies in memory. -/
structure Pls (w : World) (B : Nat) (A : Option Addr) (c : Nat) (ls : List Pe) : Prop where
  L : Lies w B 5 A ls.length (pc ls)
  cc : ls.length ≤ c
  el : ∀ e ∈ ls, StL w B e.S e.A1 e.c1 e.A2 e.c2 e.A3 e.c3
theorem Pls.next {w w' : World} {A : Option Addr} {c : Nat} {ls : List Pe} (h : Pls w w.heap.size A c ls) (hb : Below w.heap.size w w') : Pls w' w'.heap.size A c ls :=
  ⟨h.L.next hb, h.cc, fun e he => (h.el e he).next hb⟩
theorem Pls.at {w : World} {B : Nat} {A : Option Addr} {c : Nat} {ls : List Pe} (h : Pls w B A c ls) (k : Nat) (hk : k < ls.length) : StL w B ls[k].S ls[k].A1 ls[k].c1 ls[k].A2 ls[k].c2 ls[k].A3 ls[k].c3 := h.el _ (List.getElem_mem hk)
theorem Pls.no (w : World) (B : Nat) : Pls w B none 0 [] := ⟨Lies.nil, Nat.le_refl _, fun e he => by cases he⟩
/-- A list of partitions of the call's own, under way: none of them lies in the list's block. -/
structure Psp (wb : World) (g : Nat) (ls : List Pe) (W : World) : Prop where
  bl : Below wb.heap.size wb W
  own : W.ownsRow wb.heap.size 64 5 (.slice (some ⟨g, 0, none⟩) ls.length ls.length) ls.length (pc ls)
  el : ∀ e ∈ ls, StL W W.heap.size e.S e.A1 e.c1 e.A2 e.c2 e.A3 e.c3 ∧ Nbl g e.A1 (vc e.S.vals) ∧ Nbl g e.A2 (rc e.S.rest) ∧ Nbl g e.A3 (mc e.S.inn)
theorem Psp.next {wb : World} {g : Nat} {ls : List Pe} {W W' : World} (h : Psp wb g ls W) (hb : Below W.heap.size W W') : Psp wb g ls W' :=
  ⟨h.bl.trans (hb.mono h.bl.size), own_next h.own hb, fun e he => ⟨(h.el e he).1.next hb, (h.el e he).2⟩⟩
theorem Psp.ls {wb : World} {g : Nat} {ls : List Pe} {W : World} (h : Psp wb g ls W) : Pls W W.heap.size (some ⟨g, 0, none⟩) ls.length ls :=
  ⟨Lies.of_own h.own, Nat.le_refl _, fun e he => (h.el e he).1⟩
theorem Psp.lt {wb : World} {g : Nat} {ls : List Pe} {W : World} (h : Psp wb g ls W) : wb.heap.size ≤ g ∧ g < W.heap.size := h.own.lt g rfl
theorem Psp.one {wb : World} {g i : Nat} {W : World} {e : Pe} {u : Value} (h : StL W W.heap.size e.S e.A1 e.c1 e.A2 e.c2 e.A3 e.c3 ∧ Nbl g e.A1 (vc e.S.vals) ∧ Nbl g e.A2 (rc e.S.rest) ∧ Nbl g e.A3 (mc e.S.inn)) :
    StL (W.setCell ⟨g, i, none⟩ u) (W.setCell ⟨g, i, none⟩ u).heap.size e.S e.A1 e.c1 e.A2 e.c2 e.A3 e.c3 ∧ Nbl g e.A1 (vc e.S.vals) ∧ Nbl g e.A2 (rc e.S.rest) ∧ Nbl g e.A3 (mc e.S.inn) := by
  refine ⟨StL.size ?_, h.2⟩
  exact ⟨h.1.v.setN h.2.1 u, h.1.r.setN h.2.2.1 u, h.1.m.setN h.2.2.2 u, h.1.cv, h.1.cr, h.1.cm, h.1.ok⟩
/-- A partition is put into its place. -/
theorem Psp.put {wb : World} {g : Nat} {ls : List Pe} {W : World} (h : Psp wb g ls W) (k : Nat) (e : Pe) (he : StL W W.heap.size e.S e.A1 e.c1 e.A2 e.c2 e.A3 e.c3 ∧ Nbl g e.A1 (vc e.S.vals) ∧ Nbl g e.A2 (rc e.S.rest) ∧ Nbl g e.A3 (mc e.S.inn)) :
    Psp wb g (ls.set k e) (((((W.setCell ⟨g, k * 5, none⟩ (.int .i64 e.P)).setCell ⟨g, k * 5 + 1, none⟩ (.int .i64 e.S.step)).setCell ⟨g, k * 5 + 2, none⟩ (.slice e.A1 e.S.vals.length e.c1)).setCell ⟨g, k * 5 + 3, none⟩ (.slice e.A2 e.S.rest.length e.c2)).setCell ⟨g, k * 5 + 4, none⟩ (.slice e.A3 e.S.inn.length e.c3)) := by
  have h1 := (((((h.own.stored (k * 5) (.int .i64 e.P)).1.stored (k * 5 + 1) (.int .i64 e.S.step)).1.stored (k * 5 + 2) (.slice e.A1 e.S.vals.length e.c1)).1.stored (k * 5 + 3) (.slice e.A2 e.S.rest.length e.c2)).1.stored (k * 5 + 4) (.slice e.A3 e.S.inn.length e.c3)).1
  rw [pc_set] at h1
  have hl : (ls.set k e).length = ls.length := List.length_set ..
  refine ⟨(((((h.bl.setCell (p := ⟨g, k * 5, none⟩) h.lt.1 _).setCell (p := ⟨g, k * 5 + 1, none⟩) h.lt.1 _).setCell (p := ⟨g, k * 5 + 2, none⟩) h.lt.1 _).setCell (p := ⟨g, k * 5 + 3, none⟩) h.lt.1 _).setCell (p := ⟨g, k * 5 + 4, none⟩) h.lt.1 _), by rw [hl]; exact h1, fun x hx => ?_⟩
  have hx' : StL W W.heap.size x.S x.A1 x.c1 x.A2 x.c2 x.A3 x.c3 ∧ Nbl g x.A1 (vc x.S.vals) ∧ Nbl g x.A2 (rc x.S.rest) ∧ Nbl g x.A3 (mc x.S.inn) := by
    rcases List.mem_or_eq_of_mem_set hx with hx | rfl
    · exact h.el x hx
    · exact he
  exact Psp.one (wb := wb) (Psp.one (wb := wb) (Psp.one (wb := wb) (Psp.one (wb := wb) (Psp.one (wb := wb) hx'))))
/-- What answers partitions: a list of them, and a number. -/
def SpPost (t : List Pt × Int) (w : World) (r : Ending) (w' : World) : Prop :=
  Below w.heap.size w w' ∧ ∃ A c ls, r = .returned (.tuple #[.slice A ls.length c, .int .i64 t.2]) ∧ Pls w' w'.heap.size A c ls ∧ ls.map Pe.x = t.1 ∧ (ls ≠ [] → ∃ gl, A = some ⟨gl, 0, none⟩ ∧ c = ls.length ∧ Psp w gl ls w')
theorem sp_no {t : List Pt × Int} {e : Int} {w w' : World} (h : t = ([], e)) (hb : Below w.heap.size w w') : SpPost t w (.returned (.tuple #[.slice none 0 0, .int .i64 e])) w' := by
  subst h
  exact ⟨hb, none, 0, [], rfl, Pls.no _ _, rfl, fun h => absurd rfl h⟩
/-- The partition of home k, as the program makes it, is the one of the document. -/
theorem cutI_eq {N : Int} {es : List Ed} {p s l q : Int} {S : St} (h : rightB N es p s l q S = true) (k : Nat) : mkP k (cutI q k S) = cutP N.toNat q.toNat S k := by
  obtain ⟨hj, hs, hv, hr, hm⟩ := right_of h
  have hb := badJ_not (jchk_zero hj).2
  have hn : N.toNat = S.vals.length := by omega
  unfold mkP cutI cutP
  dsimp only
  have e1 : vertsI S.vals.length q k = verts N.toNat q.toNat k := by rw [vertsI_eq (by omega) (by omega), hn, Int.toNat_natCast]
  have e2 : cm q k S S.inn.length = S.inn.filter (toHome q.toNat k) := by
    unfold cm
    rw [List.take_length]
    apply List.filter_congr
    intro m _
    rw [toHome_iff (by omega) (by omega) (by omega), Int.toNat_natCast]
  rw [e2]
  unfold cv cr
  rw [e1]
theorem made_p (q : Nat) (h1 : 1 ≤ q) (h6 : q ≤ 6) : (madeCells #[.int .i64 0, .int .i64 0, .slice none 0 0, .slice none 0 0, .slice none 0 0] (q * 5)).toList = pc (List.replicate q noPe) := by
  obtain rfl | rfl | rfl | rfl | rfl | rfl : q = 1 ∨ q = 2 ∨ q = 3 ∨ q = 4 ∨ q = 5 ∨ q = 6 := by omega
  all_goals (unfold madeCells; rw [Array.toList_map, Array.toList_range]; rfl)
/-- The first k partitions are made. -/
def Pd (N : Int) (q : Int) (S : St) (k : Nat) (ls : List Pe) : Prop := ls.length = q.toNat ∧ ∀ j (h : j < ls.length), j < k → ls[j].x = cutP N.toNat q.toNat S j
theorem Pd.set {N q : Int} {S : St} {k : Nat} {ls : List Pe} (h : Pd N q S k ls) {e : Pe} (he : e.x = cutP N.toNat q.toNat S k) : Pd N q S (k + 1) (ls.set k e) := by
  refine ⟨by rw [List.length_set]; exact h.1, fun j hj hk => ?_⟩
  rw [List.getElem_set]
  by_cases hjk : k = j
  · rw [if_pos hjk, ← hjk]; exact he
  · rw [if_neg hjk]; exact h.2 j (by simpa using hj) (by omega)
theorem Pd.end {N q : Int} {S : St} {ls : List Pe} (h : Pd N q S q.toNat ls) : ls.map Pe.x = (List.range q.toNat).map (cutP N.toNat q.toNat S) := by
  apply List.ext_getElem
  · simp [h.1]
  · intro i h1 h2
    simp only [List.getElem_map, List.getElem_range]
    have h3 : i < ls.length := by simpa using h1
    exact h.2 i h3 (by rw [← h.1]; exact h3)
def SpRel (N q : Int) (S : St) (w4 : World) (g : Nat) (i : Value) (W : World) : Prop := ∃ (k : Nat) (ls : List Pe), i = .int .i64 k ∧ k ≤ q.toNat ∧ Hid (Pd N q S k ls) ∧ Hid (Psp w4 g ls W)
set_option maxRecDepth 20000 in
set_option maxHeartbeats 2000000 in
theorem split_any (N : Int) (A : Option Addr) (n c : Nat) (es : List Ed) (p s l q : Int) (S : St) (A1 : Option Addr) (c1 : Nat) (A2 : Option Addr) (c2 : Nat) (A3 : Option Addr) (c3 : Nat) (w : World)
    (hA : Lies w w.heap.size 3 A n (ec es)) (hnc : n ≤ c) (hn : n ≤ maxLen) (hS : StL w w.heap.size S A1 c1 A2 c2 A3 c3) :
    Calls Tryz.prog 20 #[.agg #[.int .i64 N, .slice A n c], .agg #[.int .i64 p, .int .i64 s, .int .i64 l, .int .i64 q], .agg #[.int .i64 S.step, .slice A1 S.vals.length c1, .slice A2 S.rest.length c2, .slice A3 S.inn.length c3]] w (SpPost (splitR N es p s l q S) w) := by
  have hbs := Bs.init w N A n c p s l q S A1 c1 A2 c2 A3 c3
  have HA := Lib.hid (hA.next hbs.x.bl)
  have HS := Lib.hid (hS.next hbs.x.bl)
  have HBS := Lib.hid hbs
  clear hbs hA hS
  go_enter Tryz.func20, Tryz.ntmps20
  go_wp2_with fail
  refine (jcheck_any N A n c es p s l q _ HA.out hnc hn).mono ?_
  rintro e w1 ⟨rfl, hb1⟩
  have hs1 := HBS.out.next hb1
  have HX1 := Lib.hid hs1
  have HA1 := Lib.hid (HA.out.next hb1)
  have HS1 := Lib.hid (HS.out.next hb1)
  have HB1 := Lib.hid hs1.x.bl
  clear hb1 HA HS HBS
  by_cases hj : jchk N es p s l q = 0
  · have HJ := Lib.hid hj
    have HQ := Lib.hid (badJ_not (jchk_zero hj).2)
    rw [hj]
    obtain ⟨⟨z1, g0, g1, j0, j1, j2, j3, bl1⟩, z2, s0, s1, s2, s3⟩ := hs1
    clear z1 bl1 z2 hj
    go_wp2_with fail
    refine (right_any N A n c es p s l q S A1 c1 A2 c2 A3 c3 _ HA1.out hnc hn HS1.out).mono ?_
    rintro e w2 ⟨rfl, hb2⟩
    have HX2 := Lib.hid (HX1.out.next hb2)
    have HS2 := Lib.hid (HS1.out.next hb2)
    clear g0 g1 j0 j1 j2 j3 s0 s1 s2 s3 hb2 HX1 HA1 HS1 HB1
    cases hr : rightB N es p s l q S with
    | false =>
      have HR := Lib.hid (show splitR N es p s l q S = ([], 1) by unfold splitR; rw [if_pos HJ.out, hr]; rfl)
      clear hr
      go_wp2_with fail
      go_ret2
      exact sp_no HR.out HX2.out.x.bl
    | true =>
      have HR := Lib.hid hr
      have HRO := Lib.hid (right_of hr)
      clear hr
      obtain ⟨m, hm⟩ : ∃ m : Nat, q = m := ⟨q.toNat, by have := HQ.out; omega⟩
      have HM := Lib.hid hm
      have hm6 : 1 ≤ m ∧ m ≤ 6 := by have := HQ.out; omega
      obtain ⟨ip, hip, hzp, hzsp, hzbp⟩ := info_parts (show (Tryz.prog.info? 64).map (fun i => (i.zero, i.size, i.bytes)) = some (some (.agg #[.int .i64 0, .int .i64 0, .slice none 0 0, .slice none 0 0, .slice none 0 0]), 5, 88) by kernel_rfl)
      obtain ⟨w4, hmk, hown, hgr⟩ := run_make_full (P := Tryz.prog) w2 w2.heap.size 59 64 ip _ 5 Tryz.underlying59 hip hzp hzsp .i64 .i64 m (by rw [hzbp]; omega) (by unfold maxLen; omega) (Nat.le_refl _)
      rw [← hm] at hmk
      have HB4 := Lib.hid (show Below w2.heap.size w2 w4 from (Below.refl _ _).grown hgr (Nat.le_refl _) (fun k hk => by cases hk))
      have HW2 := Lib.hid (show w.heap.size ≤ w2.heap.size from HX2.out.x.bl.size)
      have HP4 := Lib.hid (show Psp w2 w2.heap.size (List.replicate m noPe) w4 by
        refine ⟨HB4.out, ?_, fun e he => ?_⟩
        · rw [show (Value.agg #[.int .i64 0, .int .i64 0, .slice none 0 0, .slice none 0 0, .slice none 0 0]).cells = #[.int .i64 0, .int .i64 0, .slice none 0 0, .slice none 0 0, .slice none 0 0] from rfl, made_p m hm6.1 hm6.2] at hown
          rw [List.length_replicate]
          exact hown
        · obtain rfl := List.eq_of_mem_replicate he
          exact ⟨StL.no _ _, .inl rfl, .inl rfl, .inl rfl⟩)
      have hmm : (m : Int) = q := hm.symm
      have HPD := Lib.hid (show Pd N q S 0 (List.replicate m noPe) from ⟨by rw [List.length_replicate, HM.out, Int.toNat_natCast], fun j hj h0 => absurd h0 (Nat.not_lt_zero _)⟩)
      clear hm hip hzp hzsp hzbp hown hgr hmm
      have j3 := HX2.out.x.j3
      have j3' := (HX2.out.next HB4.out).x.j3
      obtain ⟨g, hg⟩ : ∃ g, g = w2.heap.size := ⟨_, rfl⟩
      rw [← hg] at hmk HP4
      clear hg
      go_wp2_with fail
      clear j3 j3' hmk
      go_loopw [27] (fun i W => SpRel N q S w2 g i W) (fun i W => m - (intOf i).toNat)
      case atStart => exact ⟨0, _, rfl, Nat.zero_le _, HPD, HP4⟩
      case round =>
        obtain ⟨k, ls, rfl, hk, HD, HP⟩ := hrel
        clear HPD HP4
        have hq : q.toNat = m := by rw [HM.out]; rfl
        rw [hq] at hk
        have hls : ls.length = m := by rw [HD.out.1]; exact hq
        have HXW := Lib.hid (HX2.out.next HP.out.bl)
        by_cases hkm : k < m
        · have hkq : (k : Int) < q := by have := HM.out; omega
          have hkm' : (k : Int) < (m : Int) := by omega
          obtain ⟨⟨z1, g0, g1, j0, j1, j2, j3, bl1⟩, z2, s0, s1, s2, s3⟩ := id HXW.out
          clear z1 bl1 z2 g0 g1
          go_wp2_with fail
          refine (partition_any p s l q k S A1 c1 A2 c2 A3 c3 _ (HS2.out.next HP.out.bl) (by have := HRO.out; omega) (by have := HQ.out; omega) (by have := HQ.out; omega)).mono ?_
          rintro e w5 ⟨hb5, X1, x1, X2, x2, X3, x3, rfl, hs5, f1, f2, f3⟩
          have HP5 := Lib.hid (HP.out.next hb5)
          have hgl := HP.out.lt.2
          have HP6 := Lib.hid (HP5.out.put k ⟨k, cutI q k S, X1, x1, X2, x2, X3, x3⟩ ⟨hs5, .inr (f1.nb hgl), .inr (f2.nb hgl), .inr (f3.nb hgl)⟩)
          have HD6 := Lib.hid (HD.out.set (e := ⟨k, cutI q k S, X1, x1, X2, x2, X3, x3⟩) (cutI_eq HR.out k))
          obtain ⟨a0, a1, a2, a3, a4⟩ := pc_at ls k (by omega)
          obtain ⟨y0, d0⟩ : ∃ y, w5.cell? ⟨g, k * 5, none⟩ = some y := ⟨_, (HP5.out.own.cellAt (k * 5) (by omega)).trans a0⟩
          obtain ⟨y1, d1⟩ : ∃ y, w5.cell? ⟨g, k * 5 + 1, none⟩ = some y := ⟨_, (HP5.out.own.cellAt (k * 5 + 1) (by omega)).trans a1⟩
          obtain ⟨y2, d2⟩ : ∃ y, w5.cell? ⟨g, k * 5 + 2, none⟩ = some y := ⟨_, (HP5.out.own.cellAt (k * 5 + 2) (by omega)).trans a2⟩
          obtain ⟨y3, d3⟩ : ∃ y, w5.cell? ⟨g, k * 5 + 3, none⟩ = some y := ⟨_, (HP5.out.own.cellAt (k * 5 + 3) (by omega)).trans a3⟩
          obtain ⟨y4, d4⟩ : ∃ y, w5.cell? ⟨g, k * 5 + 4, none⟩ = some y := ⟨_, (HP5.out.own.cellAt (k * 5 + 4) (by omega)).trans a4⟩
          have f0' := HP5.out.own.frozenAt (k * 5)
          have f1' := HP5.out.own.frozenAt (k * 5 + 1)
          have f2' := HP5.out.own.frozenAt (k * 5 + 2)
          have f3' := HP5.out.own.frozenAt (k * 5 + 3)
          have f4' := HP5.out.own.frozenAt (k * 5 + 4)
          clear j0 j1 j2 j3 s0 s1 s2 s3 a0 a1 a2 a3 a4 f1 f2 f3 hs5 hb5 hgl HXW HP HD hq
          generalize cutI q k S = T at *
          have hk6 : k < 6 := by omega
          go_wp2_with fail
          go_roundw
          case rel => exact ⟨k + 1, _, by go_num, by rw [HM.out]; show k + 1 ≤ m; omega, HD6, HP6⟩
          case measure => simp [intOf]; omega
        · have hk' : k = m := by omega
          subst hk'
          have hkq : ¬ ((k : Int) < q) := by have := HM.out; omega
          have HBL := Lib.hid HXW.out.x.bl
          have HPX := Lib.hid (show Psp w g ls wr from ⟨HBL.out, HP.out.own.lower HW2.out, HP.out.el⟩)
          have HPL := Lib.hid HP.out.ls
          have HRE := Lib.hid (show splitR N es p s l q S = ((List.range q.toNat).map (cutP N.toNat q.toNat S), 0) by unfold splitR; rw [if_pos HJ.out, if_pos HR.out])
          rw [hls] at HPL
          have HE := Lib.hid (show ls.map Pe.x = (List.range q.toNat).map (cutP N.toNat q.toNat S) from Pd.end (by rw [hq]; exact HD.out))
          clear HXW HP HD
          go_wp2_with fail
          go_ret2
          rw [HRE.out]
          exact ⟨HBL.out, some ⟨g, 0, none⟩, k, ls, by rw [hls]; rfl, HPL.out, HE.out, fun _ => ⟨g, rfl, hls.symm, HPX.out⟩⟩
  · have h1 : (jchk N es p s l q != 0) = true := by simpa using hj
    have HR := Lib.hid (show splitR N es p s l q S = ([], jchk N es p s l q) by unfold splitR; rw [if_neg hj])
    clear hj hs1
    go_wp2_with fail
    go_ret2
    exact sp_no HR.out HB1.out
end Go.Proofs.YtpgdddjjjfkneaaGreatDoor


