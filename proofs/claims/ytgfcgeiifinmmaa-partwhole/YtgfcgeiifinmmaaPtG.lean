/-
  The contracts of the document's own Split, Same and SameAll. No condition but that the numbers are not too many.
-/
import Derived.Test.YtgfcgeiifinmmaaPtF
import Derived.BigQuiet
import Derived.Deep.RegionHeld3
namespace Go.Proofs.Ytgfcgeiifinmmaa
open Go.ChangeShapes Go.WideShapes Go.ChangeAt Go.RowKit
set_option linter.unusedVariables false

/-- A list of partitions of the call's own, which grows. -/
structure Psq (wb : World) (A : Option Addr) (c : Nat) (ls : List Pe) (W : World) : Prop where
  bl : Below wb.heap.size wb W
  own : W.ownsRow wb.heap.size 36 5 (.slice A ls.length c) ls.length (pc ls)
  el : ∀ e ∈ ls, StL W W.heap.size e.S e.A1 e.c1 e.A2 e.c2 e.A3 e.c3 ∧ ∀ g, (Value.slice A ls.length c).ownBlock = some g → Nbl g e.A1 (vc e.S.vals) ∧ Nbl g e.A2 (rc e.S.rest) ∧ Nbl g e.A3 (mc e.S.inn)
section
variable {wb : World} {A : Option Addr} {c : Nat} {ls : List Pe} {W W' : World}
theorem Psq.next (h : Psq wb A c ls W) (hb : Below W.heap.size W W') : Psq wb A c ls W' :=
  ⟨h.bl.trans (hb.mono h.bl.size), own_next h.own hb, fun e he => ⟨(h.el e he).1.next hb, (h.el e he).2⟩⟩
theorem Psq.pl (h : Psq wb A c ls W) : Pls W W.heap.size A c ls := ⟨Lies.of_own h.own, own_cap h.own, fun e he => (h.el e he).1⟩
theorem Psq.no (wb : World) : Psq wb none 0 [] wb := ⟨Below.refl _ _, World.ownsRow_nil _ _ _ _, fun e he => by cases he⟩
theorem Psq.app (h : Psq wb A c ls W) {e : Pe} (he : StL W W.heap.size e.S e.A1 e.c1 e.A2 e.c2 e.A3 e.c3) (hf : ∀ g, (Value.slice A ls.length c).ownBlock = some g → Nbl g e.A1 (vc e.S.vals) ∧ Nbl g e.A2 (rc e.S.rest) ∧ Nbl g e.A3 (mc e.S.inn)) {A' : Option Addr} {c' : Nat}
    (ho : W'.ownsRow wb.heap.size 36 5 (.slice A' (ls.length + 1) c') (ls.length + 1) (pc ls ++ pc [e])) (hb : Below wb.heap.size W W') (hg : W.grownBy W' (Value.slice A ls.length c).ownBlock) (hw : (Value.slice A' (ls.length + 1) c').ownBlock = (Value.slice A ls.length c).ownBlock ∨ (Value.slice A' (ls.length + 1) c').ownBlock = some W.heap.size) :
    Psq wb A' c' (ls ++ [e]) W' := by
  have hl : (ls ++ [e]).length = ls.length + 1 := by simp
  refine ⟨h.bl.trans hb, by rw [hl, pc_app]; exact ho, fun x hx => ?_⟩
  have hx' : StL W W.heap.size x.S x.A1 x.c1 x.A2 x.c2 x.A3 x.c3 ∧ ∀ g, (Value.slice A ls.length c).ownBlock = some g → Nbl g x.A1 (vc x.S.vals) ∧ Nbl g x.A2 (rc x.S.rest) ∧ Nbl g x.A3 (mc x.S.inn) := by
    rcases List.mem_append.1 hx with hx | hx
    · exact h.el x hx
    · rw [List.mem_singleton] at hx; subst hx; exact ⟨he, hf⟩
  refine ⟨?_, fun g hgo => ?_⟩
  · cases ho1 : (Value.slice A ls.length c).ownBlock with
    | none =>
      rw [ho1] at hg
      exact hx'.1.next ((Below.refl _ _).grown hg (Nat.le_refl _) (fun k hk => by cases hk))
    | some g =>
      rw [ho1] at hg
      obtain ⟨n1, n2, n3⟩ := hx'.2 g ho1
      exact hx'.1.grown hg n1 n2 n3
  · rw [hl] at hgo
    rcases hw with hw | hw
    · exact hx'.2 g (hw.symm.trans hgo)
    · rw [hw] at hgo
      injection hgo with hgo
      subst hgo
      exact ⟨hx'.1.v.nbl (Nat.le_refl _), hx'.1.r.nbl (Nat.le_refl _), hx'.1.m.nbl (Nat.le_refl _)⟩
end
def RsRel (N q : Int) (S : St) (w2 : World) (o i : Value) (W : World) : Prop := ∃ (k : Nat) (D : Option Addr) (d : Nat) (ls : List Pe), i = .int .i64 k ∧ o = .slice D k d ∧ k ≤ q.toNat ∧ ls.length = k ∧ Hid (ls.map Pe.x = (List.range k).map (cutP N.toNat q.toNat S)) ∧ Hid (Psq w2 D d ls W)

set_option maxRecDepth 20000 in
set_option maxHeartbeats 2000000 in
theorem rsplit_any (N : Int) (A : Option Addr) (n c : Nat) (es : List Ed) (p s l q : Int) (S : St) (A1 : Option Addr) (c1 : Nat) (A2 : Option Addr) (c2 : Nat) (A3 : Option Addr) (c3 : Nat) (w : World)
    (hA : Lies w w.heap.size 3 A n (ec es)) (hnc : n ≤ c) (hn : n ≤ maxLen) (hS : StL w w.heap.size S A1 c1 A2 c2 A3 c3) :
    Calls Try.prog 20 #[.agg #[.int .i64 N, .slice A n c], .agg #[.int .i64 p, .int .i64 s, .int .i64 l, .int .i64 q], .agg #[.int .i64 S.step, .slice A1 S.vals.length c1, .slice A2 S.rest.length c2, .slice A3 S.inn.length c3]] w (SpPost (splitR N es p s l q S) w) := by
  obtain ⟨ip, hip, hzp, hzsp, hzbp⟩ := info_parts (show (Try.prog.info? 36).map (fun i => (i.zero, i.size, i.bytes)) = some (some (.agg #[.int .i64 0, .int .i64 0, .slice none 0 0, .slice none 0 0, .slice none 0 0]), 5, 88) by kernel_rfl)
  have IP := Lib.hid hip
  have ZP := Lib.hid hzp
  have SP := Lib.hid hzsp
  have BP := Lib.hid hzbp
  clear hip hzp hzsp hzbp
  have hbs := Bs.init w N A n c p s l q S A1 c1 A2 c2 A3 c3
  have HA := Lib.hid (hA.next hbs.x.bl)
  have HS := Lib.hid (hS.next hbs.x.bl)
  have HBS := Lib.hid hbs
  clear hbs hA hS
  go_enter Try.func20, Try.ntmps20
  go_wp2_with fail
  refine (rjcheck_any N A n c es p s l q _ HA.out hnc hn).mono ?_
  rintro e w1 ⟨rfl, hb1⟩
  have hs1 := HBS.out.next hb1
  have HX1 := Lib.hid hs1
  have HA1 := Lib.hid (HA.out.next hb1)
  have HS1 := Lib.hid (HS.out.next hb1)
  have HB1 := Lib.hid hs1.x.bl
  clear hb1 HA HS HBS
  by_cases hj : jchk N es p s l q = 0
  · have HJ := Lib.hid hj
    have HQ := Lib.hid (badJ_not (jchk_zero hj).2)
    rw [hj]
    obtain ⟨⟨z1, g0, g1, j0, j1, j2, j3, bl1⟩, z2, s0, s1, s2, s3⟩ := hs1
    clear z1 bl1 z2 hj
    go_wp2_with fail
    refine (rright_any N A n c es p s l q S A1 c1 A2 c2 A3 c3 _ HA1.out hnc hn HS1.out).mono ?_
    rintro e w2 ⟨rfl, hb2⟩
    have HX2 := Lib.hid (HX1.out.next hb2)
    have HS2 := Lib.hid (HS1.out.next hb2)
    clear g0 g1 j0 j1 j2 j3 s0 s1 s2 s3 hb2 HX1 HA1 HS1 HB1
    cases hr : rightB N es p s l q S with
    | false =>
      have HR := Lib.hid (show splitR N es p s l q S = ([], 1) by unfold splitR; rw [if_pos HJ.out, hr]; rfl)
      clear hr
      go_wp2_with fail
      go_ret2
      exact sp_no HR.out HX2.out.x.bl
    | true =>
      have HR := Lib.hid hr
      clear hr
      obtain ⟨m, hm⟩ : ∃ m : Nat, q = m := ⟨q.toNat, by have := HQ.out; omega⟩
      have HM := Lib.hid hm
      have hm6 : 1 ≤ m ∧ m ≤ 6 := by have := HQ.out; omega
      clear hm
      go_wp2_with fail
      go_loopw [9, 10] (fun o i W => RsRel N q S w2 o i W) (fun o i W => m - (intOf i).toNat)
      case atStart => exact ⟨0, none, 0, [], rfl, rfl, Nat.zero_le _, rfl, Lib.hid rfl, Lib.hid (Psq.no w2)⟩
      case round =>
        obtain ⟨k, D, d, ls, rfl, rfl, hk, hls, HD, HP⟩ := hrel
        have hq : q.toNat = m := by rw [HM.out]; rfl
        rw [hq] at hk
        have HXW := Lib.hid (HX2.out.next HP.out.bl)
        obtain ⟨⟨z1, g0, g1, j0, j1, j2, j3, bl1⟩, z2, s0, s1, s2, s3⟩ := id HXW.out
        clear z1 bl1 z2
        by_cases hkm : k < m
        · have hkq : (k : Int) < q := by have := HM.out; omega
          go_wp2_with fail
          refine (rcut_any N A n c es p s l q k S A1 c1 A2 c2 A3 c3 _ (HS2.out.next HP.out.bl) HR.out (by omega)).mono ?_
          rintro e w5 ⟨hb5, X1, x1, X2, x2, X3, x3, rfl, hs5, f1, f2, f3⟩
          have HP5 := Lib.hid (HP.out.next hb5)
          have hgl : ∀ g, (Value.slice D ls.length d).ownBlock = some g → g < wr.heap.size := fun g hg => (HP.out.own.lt g hg).2
          have HF := Lib.hid (show ∀ g, (Value.slice D ls.length d).ownBlock = some g → Nbl g X1 (vc (cutI q k S).vals) ∧ Nbl g X2 (rc (cutI q k S).rest) ∧ Nbl g X3 (mc (cutI q k S).inn) from fun g hg => ⟨.inr (f1.nb (hgl g hg)), .inr (f2.nb (hgl g hg)), .inr (f3.nb (hgl g hg))⟩)
          have HCE := Lib.hid (show Pe.x ⟨k, cutI q k S, X1, x1, X2, x2, X3, x3⟩ = cutP N.toNat q.toNat S k from cutI_eq HR.out k)
          clear j0 j1 j2 j3 s0 s1 s2 s3 g0 g1 f1 f2 f3 hb5 hgl HXW HP hq
          generalize cutI q k S = T at *
          have HP6 := Lib.hid (HP5.out.next (below_alloc w5 (.cells #[.int .i64 k, .int .i64 T.step, .slice X1 T.vals.length x1, .slice X2 T.rest.length x2, .slice X3 T.inn.length x3] 36)))
          have HS6 := Lib.hid (hs5.next (below_alloc w5 (.cells #[.int .i64 k, .int .i64 T.step, .slice X1 T.vals.length x1, .slice X2 T.rest.length x2, .slice X3 T.inn.length x3] 36)))
          have HO6 := Lib.hid HP6.out.own
          have HL6 := Lib.hid (lies_cells w5 (pc [⟨k, T, X1, x1, X2, x2, X3, x3⟩]) 36 1 5 rfl)
          subst hls
          clear hs5
          have hk6 : ls.length < 6 := by omega
          go_wp2_with (at_builtin; go_must (refine wpList_app3 _ rfl (.tmp 28) (.tmp 34) 42 rfl w2.heap.size 36 ip _ 5 88 Try.underlying42 IP.out ZP.out SP.out BP.out rfl (by decide) D ls.length d (pc ls) rfl HO6.out (w5.heap.size + 1) (some ⟨w5.heap.size, 0, none⟩) 1 1 (pc [⟨ls.length, T, X1, x1, X2, x2, X3, x3⟩]) rfl HL6.out (pc_one _) (by unfold maxLen; omega) (by omega) HP6.out.bl.size ?_))
          intro A9 c9 w9 ho9 hb9 hg9 hw9
          have HP9 := Lib.hid (HP6.out.app (e := ⟨ls.length, T, X1, x1, X2, x2, X3, x3⟩) HS6.out HF.out ho9 hb9 hg9 (by simpa using hw9))
          clear ho9 hb9 hg9 hw9 HO6 HL6 HP6 HS6
          go_wp2_with fail
          go_roundw
          case rel => exact ⟨ls.length + 1, A9, c9, _, by go_num, rfl, by rw [HM.out]; show ls.length + 1 ≤ m; omega, by simp, Lib.hid (by rw [List.map_append, HD.out, List.range_succ, List.map_append, List.map_singleton, HCE.out]; rfl), HP9⟩
          case measure => simp [intOf]; omega
        · have hk' : k = m := by omega
          subst hk'
          have hkq : ¬ ((k : Int) < q) := by have := HM.out; omega
          have HBL := Lib.hid HXW.out.x.bl
          have HPL := Lib.hid HP.out.pl
          have HRE := Lib.hid (show splitR N es p s l q S = ((List.range q.toNat).map (cutP N.toNat q.toNat S), 0) by unfold splitR; rw [if_pos HJ.out, if_pos HR.out])
          clear HXW HP s0 s1 s2 s3
          go_wp2_with fail
          go_ret2
          rw [HRE.out]
          exact ⟨HBL.out, D, d, ls, by rw [hls]; rfl, HPL.out, by show _ = (List.range q.toNat).map _; rw [show List.range q.toNat = List.range k by rw [hq]]; exact HD.out⟩
  · have h1 : (jchk N es p s l q != 0) = true := by simpa using hj
    have HR := Lib.hid (show splitR N es p s l q S = ([], jchk N es p s l q) by unfold splitR; rw [if_neg hj])
    clear hj hs1
    go_wp2_with fail
    go_ret2
    exact sp_no HR.out HB1.out
/-- Two partitions stand boxed in the first two blocks behind w. -/
structure P2 (w : World) (P : Int) (S : St) (A1 : Option Addr) (c1 : Nat) (A2 : Option Addr) (c2 : Nat) (A3 : Option Addr) (c3 : Nat) (D1 : Option Addr) (d1 : Nat) (D2 : Option Addr) (d2 : Nat) (D3 : Option Addr) (d3 : Nat) (W : World) : Prop where
  z : w.heap.size + 2 ≤ W.heap.size
  a2 : W.cell? ⟨w.heap.size, 3, none⟩ = some (.slice A2 S.rest.length c2)
  a3 : W.cell? ⟨w.heap.size, 4, none⟩ = some (.slice A3 S.inn.length c3)
  b2 : W.cell? ⟨w.heap.size + 1, 3, none⟩ = some (.slice D2 S.rest.length d2)
  b3 : W.cell? ⟨w.heap.size + 1, 4, none⟩ = some (.slice D3 S.inn.length d3)
  bl : Below w.heap.size w W
theorem P2.next {w : World} {P : Int} {S : St} {A1 : Option Addr} {c1 : Nat} {A2 : Option Addr} {c2 : Nat} {A3 : Option Addr} {c3 : Nat} {D1 : Option Addr} {d1 : Nat} {D2 : Option Addr} {d2 : Nat} {D3 : Option Addr} {d3 : Nat} {W W' : World} (h : P2 w P S A1 c1 A2 c2 A3 c3 D1 d1 D2 d2 D3 d3 W) (hb : Below W.heap.size W W') : P2 w P S A1 c1 A2 c2 A3 c3 D1 d1 D2 d2 D3 d3 W' :=
  have k : ∀ b o, b < w.heap.size + 2 → W'.cell? ⟨b, o, none⟩ = W.cell? ⟨b, o, none⟩ := fun b o hl => hb.cell (p := ⟨b, o, none⟩) (Nat.lt_of_lt_of_le hl h.z)
  ⟨Nat.le_trans h.z hb.size, (k _ _ (by omega)).trans h.a2, (k _ _ (by omega)).trans h.a3, (k _ _ (by omega)).trans h.b2, (k _ _ (by omega)).trans h.b3, h.bl.trans (hb.mono (by have := h.z; omega))⟩
theorem P2.init (w : World) (P : Int) (S : St) (A1 : Option Addr) (c1 : Nat) (A2 : Option Addr) (c2 : Nat) (A3 : Option Addr) (c3 : Nat) (D1 : Option Addr) (d1 : Nat) (D2 : Option Addr) (d2 : Nat) (D3 : Option Addr) (d3 : Nat) :
    P2 w P S A1 c1 A2 c2 A3 c3 D1 d1 D2 d2 D3 d3 ((w.alloc (.cells #[.int .i64 P, .int .i64 S.step, .slice A1 S.vals.length c1, .slice A2 S.rest.length c2, .slice A3 S.inn.length c3] 36)).alloc (.cells #[.int .i64 P, .int .i64 S.step, .slice D1 S.vals.length d1, .slice D2 S.rest.length d2, .slice D3 S.inn.length d3] 36)) :=
  ⟨by simp, by simp [go_sem], by simp [go_sem], by simp [go_sem], by simp [go_sem], ((Below.refl _ _).alloc (Nat.le_refl _) _).alloc (by simp) _⟩
set_option maxHeartbeats 1000000 in
theorem psame_yes (P : Int) (S : St) (A1 : Option Addr) (c1 : Nat) (A2 : Option Addr) (c2 : Nat) (A3 : Option Addr) (c3 : Nat) (D1 : Option Addr) (d1 : Nat) (D2 : Option Addr) (d2 : Nat) (D3 : Option Addr) (d3 : Nat) (w : World)
    (hS : StL w w.heap.size S A1 c1 A2 c2 A3 c3) (hD : StL w w.heap.size S D1 d1 D2 d2 D3 d3) :
    Calls Try.prog 36 #[.agg #[.int .i64 P, .int .i64 S.step, .slice A1 S.vals.length c1, .slice A2 S.rest.length c2, .slice A3 S.inn.length c3], .agg #[.int .i64 P, .int .i64 S.step, .slice D1 S.vals.length d1, .slice D2 S.rest.length d2, .slice D3 S.inn.length d3]] w fun e w' => e = .returned (.bool true) ∧ Below w.heap.size w w' := by
  have hx := P2.init w P S A1 c1 A2 c2 A3 c3 D1 d1 D2 d2 D3 d3
  have HX := Lib.hid hx
  have HS := Lib.hid (hS.next hx.bl)
  have HD := Lib.hid (hD.next hx.bl)
  clear hx hS hD
  go_enter Try.func36, Try.ntmps36
  go_wp2_with fail
  refine (sameV_yes A1 c1 D1 d1 S.vals _ HS.out.v HD.out.v HS.out.ok.lv).mono ?_
  rintro e w1 ⟨rfl, hb1⟩
  have hx1 := HX.out.next hb1
  have HX1 := Lib.hid hx1
  have HS1 := Lib.hid (HS.out.next hb1)
  have HD1 := Lib.hid (HD.out.next hb1)
  obtain ⟨z, a2, a3, b2, b3, bl⟩ := hx1
  clear z bl HX HS HD hb1
  go_wp2_with fail
  refine (sameR_yes A2 c2 D2 d2 S.rest _ HS1.out.r HD1.out.r HS1.out.ok.lr).mono ?_
  rintro e w2 ⟨rfl, hb2⟩
  have hx2 := HX1.out.next hb2
  have HS2 := Lib.hid (HS1.out.next hb2)
  have HD2 := Lib.hid (HD1.out.next hb2)
  clear a2 a3 b2 b3
  have a3 := hx2.a3
  have b3 := hx2.b3
  have HB := Lib.hid hx2.bl
  clear hx2 HX1 HS1 HD1 hb2
  go_wp2_with fail
  refine (sameM_any A3 S.inn.length c3 S.inn D3 S.inn.length d3 S.inn _ HS2.out.m HD2.out.m HS2.out.ok.lm HS2.out.ok.lm).mono ?_
  rintro e w3 ⟨rfl, hb3⟩
  have HB3 := Lib.hid (HB.out.trans (hb3.mono HB.out.size))
  rw [decide_eq_true rfl]
  clear hb3
  go_wp2_with fail
  go_ret
  exact ⟨rfl, HB3.out⟩
/-- Two lists of partitions are alike. -/
theorem pe_same {ls ls' : List Pe} (h : ls.map Pe.x = ls'.map Pe.x) (k : Nat) (hk : k < ls.length) (hk' : k < ls'.length) : ls[k].P = ls'[k].P ∧ ls[k].S = ls'[k].S := by
  have h1 : (ls.map Pe.x)[k]? = (ls'.map Pe.x)[k]? := by rw [h]
  rw [List.getElem?_map, List.getElem?_map, List.getElem?_eq_getElem hk, List.getElem?_eq_getElem hk'] at h1
  simp only [Option.map_some, Option.some.injEq] at h1
  unfold Pe.x mkP at h1
  injection h1 with e1 e2 e3 e4 e5
  refine ⟨e1, ?_⟩
  generalize ls[k].S = a at *
  generalize ls'[k].S = b at *
  cases a; cases b
  simp only at e2 e3 e4 e5
  rw [e2, e3, e4, e5]
def SaRel (n : Nat) (w : World) (i : Value) (W : World) : Prop := ∃ k : Nat, i = .int .i64 k ∧ k ≤ n ∧ Below w.heap.size w W
set_option maxHeartbeats 2000000 in
theorem sameAll_yes (A : Option Addr) (c : Nat) (ls : List Pe) (D : Option Addr) (d : Nat) (ls' : List Pe) (w : World) (h1 : Pls w w.heap.size A c ls) (h2 : Pls w w.heap.size D d ls') (he : ls.map Pe.x = ls'.map Pe.x) (hl : ls.length ≤ 100) :
    Calls Try.prog 21 #[.slice A ls.length c, .slice D ls'.length d] w fun e w' => e = .returned (.bool true) ∧ Below w.heap.size w w' := by
  have mixed : Try.prog.follows .mixedOrders = true := by kernel_rfl
  have HL := Lib.hid (show ls'.length = ls.length by have := congrArg List.length he; simpa using this.symm)
  have HE := Lib.hid he
  rw [HL.out]
  clear he
  go_enter Try.func21, Try.ntmps21
  go_wp2_with fail
  go_loopw [5] (fun i W => SaRel ls.length w i W) (fun i W => ls.length - (intOf i).toNat)
  case atStart => exact ⟨0, rfl, Nat.zero_le _, Below.refl _ _⟩
  case round =>
    obtain ⟨k, rfl, hk, hb⟩ := hrel
    have HB := Lib.hid hb
    by_cases hlt : k < ls.length
    · have hlt' : k < ls'.length := by rw [HL.out]; exact hlt
      have hkl : (k : Int) < (ls.length : Int) := by omega
      obtain ⟨ad, rfl, _, x0, x1, x2, x3, x4⟩ := (h1.next hb).L.pe k hlt
      obtain ⟨ae, rfl, _, y0, y1, y2, y3, y4⟩ := (h2.next hb).L.pe k hlt'
      have HA := Lib.hid ((h1.next hb).L)
      have HD := Lib.hid ((h2.next hb).L)
      have HSA := Lib.hid ((h1.next hb).at k hlt)
      have HSD := Lib.hid ((h2.next hb).at k hlt')
      have HPE := pe_same HE.out k hlt hlt'
      rw [← HPE.1] at y0
      rw [← HPE.2] at y1 y2 y3 y4 HSD
      generalize ls[k].P = P at *
      generalize ls[k].S = S at *
      generalize ls[k].A1 = A1 at *
      generalize ls[k].A2 = A2 at *
      generalize ls[k].A3 = A3 at *
      generalize ls[k].c1 = c1 at *
      generalize ls[k].c2 = c2 at *
      generalize ls[k].c3 = c3 at *
      generalize ls'[k].A1 = D1 at *
      generalize ls'[k].A2 = D2 at *
      generalize ls'[k].A3 = D3 at *
      generalize ls'[k].c1 = d1 at *
      generalize ls'[k].c2 = d2 at *
      generalize ls'[k].c3 = d3 at *
      have HK := Lib.hid (show ∀ (W : World) (a : Addr) (v : Value), Below wr.heap.size wr W → wr.cell? a = some v → W.cell? a = some v from fun W a v hb h => (hb.cell (p := a) (World.block_lt_of_cell? wr a h)).trans h)
      have CS := Lib.hid (fun (W : World) (hb : Below wr.heap.size wr W) => psame_yes P S A1 c1 A2 c2 A3 c3 D1 d1 D2 d2 D3 d3 W (HSA.out.next hb) (HSD.out.next hb))
      clear hb HPE
      have HF := Lib.hid (show ∀ W : World, Below wr.heap.size wr W → W.cell? (ad.add (k * 5)) = some (.int .i64 P) ∧ W.cell? ⟨(ad.add (k * 5)).block, (ad.add (k * 5)).off + 1, none⟩ = some (.int .i64 S.step) ∧ W.cell? ⟨(ad.add (k * 5)).block, (ad.add (k * 5)).off + 2, none⟩ = some (.slice A1 S.vals.length c1) ∧ W.cell? ⟨(ad.add (k * 5)).block, (ad.add (k * 5)).off + 3, none⟩ = some (.slice A2 S.rest.length c2) ∧ W.cell? ⟨(ad.add (k * 5)).block, (ad.add (k * 5)).off + 4, none⟩ = some (.slice A3 S.inn.length c3) ∧ W.cell? (ae.add (k * 5)) = some (.int .i64 P) ∧ W.cell? ⟨(ae.add (k * 5)).block, (ae.add (k * 5)).off + 1, none⟩ = some (.int .i64 S.step) ∧ W.cell? ⟨(ae.add (k * 5)).block, (ae.add (k * 5)).off + 2, none⟩ = some (.slice D1 S.vals.length d1) ∧ W.cell? ⟨(ae.add (k * 5)).block, (ae.add (k * 5)).off + 3, none⟩ = some (.slice D2 S.rest.length d2) ∧ W.cell? ⟨(ae.add (k * 5)).block, (ae.add (k * 5)).off + 4, none⟩ = some (.slice D3 S.inn.length d3) ∧ Below wr.heap.size wr W by
        intro W hb
        exact ⟨HK.out _ _ _ hb x0, HK.out _ _ _ hb x1, HK.out _ _ _ hb x2, HK.out _ _ _ hb x3, HK.out _ _ _ hb x4, HK.out _ _ _ hb y0, HK.out _ _ _ hb y1, HK.out _ _ _ hb y2, HK.out _ _ _ hb y3, HK.out _ _ _ hb y4, hb⟩)
      have q0 := HF.out wr.drew (Below.refl _ _).drew
      clear x0 x1 x2 x3 x4 y0 y1 y2 y3 y4
      go_upto_region 6 with fail
      go_region_held3 (fun w' => w'.cell? (ad.add (k * 5)) = some (.int .i64 P) ∧ w'.cell? ⟨(ad.add (k * 5)).block, (ad.add (k * 5)).off + 1, none⟩ = some (.int .i64 S.step) ∧ w'.cell? ⟨(ad.add (k * 5)).block, (ad.add (k * 5)).off + 2, none⟩ = some (.slice A1 S.vals.length c1) ∧ w'.cell? ⟨(ad.add (k * 5)).block, (ad.add (k * 5)).off + 3, none⟩ = some (.slice A2 S.rest.length c2) ∧ w'.cell? ⟨(ad.add (k * 5)).block, (ad.add (k * 5)).off + 4, none⟩ = some (.slice A3 S.inn.length c3) ∧ w'.cell? (ae.add (k * 5)) = some (.int .i64 P) ∧ w'.cell? ⟨(ae.add (k * 5)).block, (ae.add (k * 5)).off + 1, none⟩ = some (.int .i64 S.step) ∧ w'.cell? ⟨(ae.add (k * 5)).block, (ae.add (k * 5)).off + 2, none⟩ = some (.slice D1 S.vals.length d1) ∧ w'.cell? ⟨(ae.add (k * 5)).block, (ae.add (k * 5)).off + 3, none⟩ = some (.slice D2 S.rest.length d2) ∧ w'.cell? ⟨(ae.add (k * 5)).block, (ae.add (k * 5)).off + 4, none⟩ = some (.slice D3 S.inn.length d3) ∧ Below wr.heap.size wr w')
        (first | exact q1 | exact q0)
        (first | ((go_at_call 36); (with_reducible refine (CS.out _ (by first | exact q1.2.2.2.2.2.2.2.2.2.2 | exact q0.2.2.2.2.2.2.2.2.2.2)).mono ?_); rintro e w5 ⟨rfl, hb2⟩; have q1 := HF.out w5 (((by first | exact q1.2.2.2.2.2.2.2.2.2.2 | exact q0.2.2.2.2.2.2.2.2.2.2) : Below wr.heap.size wr _).trans (hb2.mono (((by first | exact q1.2.2.2.2.2.2.2.2.2.2 | exact q0.2.2.2.2.2.2.2.2.2.2) : Below wr.heap.size wr _)).size))))
      go_wp2_with fail
      go_roundw
      case rel => exact ⟨k + 1, by go_num, by omega, HB.out.trans (q1.2.2.2.2.2.2.2.2.2.2.mono HB.out.size)⟩
      case measure => simp [intOf]; omega
    · have hk' : k = ls.length := by omega
      subst hk'
      go_wp2_with fail
      go_ret
      exact ⟨rfl, HB.out⟩
end Go.Proofs.Ytgfcgeiifinmmaa
