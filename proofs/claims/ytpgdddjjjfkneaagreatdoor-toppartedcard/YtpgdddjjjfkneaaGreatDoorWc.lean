import Derived.Test.YtpgdddjjjfkneaaGreatDoorWa
import Derived.Test.YtpgdddjjjfkneaaGreatDoorWkN
import Derived.Test.YtpgdddjjjfkneaaGreatDoorPtE
import Derived.Deep.RegionHeld3
import Derived.BigRegion
/-
  The contract of work's folded: what was sent to each partition, folded. No condition but that the numbers are of 62 bits and not too many.
-/
namespace Go.Proofs.YtpgdddjjjfkneaaGreatDoor
open Go.ChangeShapes Go.WideShapes Go.ChangeAt Go.RowKit
set_option linter.unusedVariables false

theorem six8 {ls : List Le} (h : ls.length = 6) : ∃ x0 x1 x2 x3 x4 x5, ls = [x0, x1, x2, x3, x4, x5] := by
  match ls, h with
  | [a, b, c, d, e, f], _ => exact ⟨a, b, c, d, e, f, rfl⟩
theorem lcl_set (ls : List Le) (k : Nat) (e : Le) : (lcl ls).set k e.v = lcl (ls.set k e) := by unfold lcl; rw [List.map_set]; rfl
/-- A list of lists of the call's own, under way: none of them lies in the list's block. -/
structure Lsp (wb : World) (g : Nat) (ls : List Le) (W : World) : Prop where
  bl : Below wb.heap.size wb W
  own : W.ownsRow wb.heap.size 37 1 (.slice (some ⟨g, 0, none⟩) ls.length ls.length) ls.length (lcl ls)
  el : ∀ e ∈ ls, Lies W W.heap.size 2 e.A e.ms.length (mc e.ms) ∧ Nbl g e.A (mc e.ms)
  fr : ∀ e ∈ ls, Fr wb.heap.size e.A
section
variable {wb : World} {g : Nat} {ls : List Le} {W W' : World}
theorem Lsp.next (h : Lsp wb g ls W) (hb : Below W.heap.size W W') : Lsp wb g ls W' :=
  ⟨h.bl.trans (hb.mono h.bl.size), own_next h.own hb, fun e he => ⟨(h.el e he).1.next hb, (h.el e he).2⟩, h.fr⟩
theorem Lsp.lls (h : Lsp wb g ls W) : Lls W W.heap.size (some ⟨g, 0, none⟩) ls.length ls :=
  ⟨Lies.of_own h.own, Nat.le_refl _, fun e he => (h.el e he).1⟩
theorem Lsp.lt (h : Lsp wb g ls W) : wb.heap.size ≤ g ∧ g < W.heap.size := h.own.lt g rfl
theorem Lsp.put (h : Lsp wb g ls W) (k : Nat) (e : Le) (he : Lies W W.heap.size 2 e.A e.ms.length (mc e.ms) ∧ Nbl g e.A (mc e.ms)) (hf : Fr wb.heap.size e.A) : Lsp wb g (ls.set k e) (W.setCell ⟨g, k, none⟩ e.v) := by
  have h1 := (h.own.stored k e.v).1
  rw [lcl_set] at h1
  have hl : (ls.set k e).length = ls.length := List.length_set ..
  refine ⟨h.bl.setCell (p := ⟨g, k, none⟩) h.lt.1 _, by rw [hl]; exact h1, fun x hx => ?_, fun x hx => ?_⟩
  · have hx' : Lies W W.heap.size 2 x.A x.ms.length (mc x.ms) ∧ Nbl g x.A (mc x.ms) := by
      rcases List.mem_or_eq_of_mem_set hx with hx | rfl
      · exact h.el x hx
      · exact he
    exact ⟨(hx'.1.setN hx'.2 _).more (by simp [World.setCell]), hx'.2⟩
  · rcases List.mem_or_eq_of_mem_set hx with hx | rfl
    · exact h.fr x hx
    · exact hf
end
theorem made_l (q : Nat) (h1 : 1 ≤ q) (h6 : q ≤ 6) : (madeCells #[.slice none 0 0] (q * 1)).toList = lcl (List.replicate q noLe) := by
  obtain rfl | rfl | rfl | rfl | rfl | rfl : q = 1 ∨ q = 2 ∨ q = 3 ∨ q = 4 ∨ q = 5 ∨ q = 6 := by omega
  all_goals (unfold madeCells; rw [Array.toList_map, Array.toList_range]; rfl)
/-- What is folded of each home. -/
def foC (p : Int) (a : Nat) (L : List Ms) (k : Nat) : Int := fdC p (toK a k L)
def foR (p : Int) (a : Nat) (L : List Ms) (k : Nat) : List Ms := fdR p (toK a k L)
def Fo (p : Int) (a : Nat) (L : List Ms) (k : Nat) (os : List Le) : Prop := os.length = a ∧ ∀ j (h : j < os.length), j < k → os[j].ms = foR p a L j
theorem Fo.set {p : Int} {a : Nat} {L : List Ms} {k : Nat} {os : List Le} (h : Fo p a L k os) {e : Le} (he : e.ms = foR p a L k) : Fo p a L (k + 1) (os.set k e) := by
  refine ⟨by rw [List.length_set]; exact h.1, fun j hj hk => ?_⟩
  rw [List.getElem_set]
  by_cases hjk : k = j
  · rw [if_pos hjk, ← hjk]; exact he
  · rw [if_neg hjk]; exact h.2 j (by simpa using hj) (by omega)
theorem Fo.end {p : Int} {a : Nat} {L : List Ms} {os : List Le} (h : Fo p a L a os) : os.map Le.ms = (List.range a).map (foR p a L) := by
  apply List.ext_getElem
  · simp [h.1]
  · intro i h1 h2
    simp only [List.getElem_map, List.getElem_range]
    have h3 : i < os.length := by simpa using h1
    exact h.2 i h3 (by rw [← h.1]; exact h3)
def FoPost (p : Int) (a : Nat) (L : List Ms) (w : World) (r : Ending) (w' : World) : Prop :=
  Below w.heap.size w w' ∧ ((firstE (foC p a L) a = 0 ∧ ∃ A os, r = .returned (.tuple #[.slice A os.length os.length, .int .i64 0]) ∧ Lls w' w'.heap.size A os.length os ∧ os.map Le.ms = (List.range a).map (foR p a L) ∧ Fr w.heap.size A ∧ ∀ e ∈ os, Fr w.heap.size e.A) ∨
    (¬ firstE (foC p a L) a = 0 ∧ r = .returned (.tuple #[.slice none 0 0, .int .i64 (firstE (foC p a L) a)])))
def FoRel (p : Int) (a : Nat) (L : List Ms) (w3 : World) (g : Nat) (i : Value) (W : World) : Prop := ∃ (k : Nat) (os : List Le), i = .int .i64 k ∧ k ≤ a ∧ Hid (Fo p a L k os) ∧ Hid (Lsp w3 g os W) ∧ Hid (firstE (foC p a L) k = 0)
set_option maxRecDepth 20000 in
set_option maxHeartbeats 2000000 in
theorem folded_any (p s l q : Int) (a : Nat) (L : List Ms) (ls : List Le) (w : World) (hq : q = a) (ha1 : 1 ≤ a) (ha6 : a ≤ 6) (hB : Bk a L ls) (hL : ∀ e ∈ ls, Lies w w.heap.size 2 e.A e.ms.length (mc e.ms)) (hbd : ∀ m ∈ L, bd m.2) (hlen : L.length ≤ 100000) :
    Calls Tryz.prog 42 #[.agg #[.int .i64 p, .int .i64 s, .int .i64 l, .int .i64 q], .agg (lcl ls).toArray] w (FoPost p a L w) := by
  have mixed : Tryz.prog.follows .mixedOrders = true := by kernel_rfl
  have hl6 := hB.1
  have hb2 : Below w.heap.size w ((w.alloc (.cells #[.int .i64 p, .int .i64 s, .int .i64 l, .int .i64 q] 23)).alloc (.cells (lcl ls).toArray 104)) := ((Below.refl _ _).alloc (Nat.le_refl _) _).alloc (by simp) _
  have HX := Lib.hid (show ∀ W : World, Below ((w.alloc (.cells #[.int .i64 p, .int .i64 s, .int .i64 l, .int .i64 q] 23)).alloc (.cells (lcl ls).toArray 104)).heap.size ((w.alloc (.cells #[.int .i64 p, .int .i64 s, .int .i64 l, .int .i64 q] 23)).alloc (.cells (lcl ls).toArray 104)) W → W.cell? ⟨w.heap.size, 0, none⟩ = some (.int .i64 p) ∧ W.cell? ⟨w.heap.size, 3, none⟩ = some (.int .i64 q) ∧ W.heap[w.heap.size + 1]? = some (.cells (lcl ls).toArray 104) by
    intro W hb
    refine ⟨?_, ?_, ?_⟩
    · rw [hb.cell (p := ⟨w.heap.size, 0, none⟩) (by simp <;> omega)]; simp [go_sem]
    · rw [hb.cell (p := ⟨w.heap.size, 3, none⟩) (by simp <;> omega)]; simp [go_sem]
    · rw [hb.block _ (by simp)]
      have e : (w.alloc (.cells #[.int .i64 p, .int .i64 s, .int .i64 l, .int .i64 q] 23)).heap.size = w.heap.size + 1 := by simp
      rw [← e]; exact heap_alloc_new _ _)
  have HLL := Lib.hid (show ∀ W : World, Below ((w.alloc (.cells #[.int .i64 p, .int .i64 s, .int .i64 l, .int .i64 q] 23)).alloc (.cells (lcl ls).toArray 104)).heap.size ((w.alloc (.cells #[.int .i64 p, .int .i64 s, .int .i64 l, .int .i64 q] 23)).alloc (.cells (lcl ls).toArray 104)) W → ∀ e ∈ ls, Lies W W.heap.size 2 e.A e.ms.length (mc e.ms) from fun W hb e he => ((hL e he).next hb2).next hb)
  have HB2 := Lib.hid hb2
  have HBK := Lib.hid hB
  have HQ := Lib.hid hq
  have HBD := Lib.hid hbd
  obtain ⟨x0, x1, x2, x3, x4, x5, e6⟩ := six8 hl6
  have E6 := Lib.hid e6
  clear hb2 hB hL hbd hq hl6
  have hbox : (lcl ls).toArray = #[.slice x0.A x0.ms.length x0.c, .slice x1.A x1.ms.length x1.c, .slice x2.A x2.ms.length x2.c, .slice x3.A x3.ms.length x3.c, .slice x4.A x4.ms.length x4.c, .slice x5.A x5.ms.length x5.c] := by rw [e6]; rfl
  rw [hbox]
  clear e6
  go_enter Tryz.func42, Tryz.ntmps42
  go_upto_region 1 with fail
  rw [← hbox]
  clear hbox
  generalize (w.alloc (.cells #[.int .i64 p, .int .i64 s, .int .i64 l, .int .i64 q] 23)).alloc (.cells (lcl ls).toArray 104) = w2 at HX HLL HB2 ⊢
  obtain ⟨ip, hip, hzp, hzsp, hzbp⟩ := info_parts (show (Tryz.prog.info? 37).map (fun i => (i.zero, i.size, i.bytes)) = some (some (.slice none 0 0), 1, 24) by kernel_rfl)
  obtain ⟨w4, hmk, hown, hgr⟩ := run_make_full (P := Tryz.prog) w2 w2.heap.size 65 37 ip _ 1 Tryz.underlying65 hip hzp hzsp .i64 .i64 a (by rw [hzbp]; omega) (by unfold maxLen; omega) (Nat.le_refl _)
  rw [← HQ.out] at hmk
  have HB4 := Lib.hid (show Below w2.heap.size w2 w4 from (Below.refl _ _).grown hgr (Nat.le_refl _) (fun k hk => by cases hk))
  have HP4 := Lib.hid (show Lsp w2 w2.heap.size (List.replicate a noLe) w4 by
    refine ⟨HB4.out, ?_, fun e he => ?_, fun e he => ?_⟩
    · rw [show (Value.slice none 0 0).cells = #[.slice none 0 0] from rfl, made_l a ha1 ha6] at hown
      rw [List.length_replicate]
      exact hown
    · obtain rfl := List.eq_of_mem_replicate he
      exact ⟨Lies.nil, .inl rfl⟩
    · obtain rfl := List.eq_of_mem_replicate he
      exact Fr.no _)
  have HFO := Lib.hid (show Fo p a L 0 (List.replicate a noLe) from ⟨List.length_replicate, fun j hj h0 => absurd h0 (Nat.not_lt_zero _)⟩)
  clear hip hzp hzsp hzbp hown hgr
  have j3 := (HX.out w2 (Below.refl _ _)).2.1
  obtain ⟨g, hg⟩ : ∃ g, g = w2.heap.size := ⟨_, rfl⟩
  rw [← hg] at hmk HP4
  clear hg
  go_wp2_with fail
  clear j3 hmk
  go_loopw [15] (fun i W => FoRel p a L w2 g i W) (fun i W => a - (intOf i).toNat)
  case atStart => exact ⟨0, _, rfl, Nat.zero_le _, HFO, HP4, Lib.hid rfl⟩
  case round =>
    obtain ⟨k, os, rfl, hk, HD, HP, HE⟩ := hrel
    clear HFO HP4 HB4
    have HOL := Lib.hid HD.out.1
    by_cases hka : k < a
    · have hkA : (k : Int) < (a : Int) := by omega
      have hkq : (k : Int) < q := by have := HQ.out; omega
      have hk6 : k < ls.length := by rw [HBK.out.1]; omega
      have hk6' : (k : Int) < 6 := by omega
      have hko : (k : Int) < (os.length : Int) := by have := HOL.out; omega
      have HC := Lib.hid (fun (W : World) (hb : Below wr.heap.size wr W) => fdf_any p ls[k].A ls[k].ms.length ls[k].c ls[k].ms W (HLL.out W (HP.out.bl.trans (hb.mono HP.out.bl.size)) _ (List.getElem_mem hk6)) (by have := HBK.out.len k hk6; omega) (by rw [HBK.out.2 k hk6]; exact fun e he => HBD.out e (List.mem_filter.1 he).1))
      have HF := Lib.hid (show ∀ W : World, Below wr.heap.size wr W → W.cell? ⟨w.heap.size, 0, none⟩ = some (.int .i64 p) ∧ W.cell? ⟨w.heap.size + 1, k, none⟩ = some (.slice ls[k].A ls[k].ms.length ls[k].c) ∧ Below wr.heap.size wr W by
        intro W hb
        obtain ⟨h1, h2, h3⟩ := HX.out W (HP.out.bl.trans (hb.mono HP.out.bl.size))
        refine ⟨h1, (cell_of_row W _ k _ 104 (0, 0) h3).trans ?_, hb⟩
        rw [List.getElem?_toArray]
        exact lcl_at ls k hk6)
      have HMS := Lib.hid (show ls[k].ms = toK a k L from HBK.out.2 k hk6)
      generalize ls[k].A = XA at *
      generalize ls[k].c = Xc at *
      generalize ls[k].ms = Xm at *
      have q0 := HF.out wr.drew (Below.refl _ _).drew
      clear hk6
      go_wp2_with fail
      go_region_held3 (fun w' => w'.cell? ⟨w.heap.size, 0, none⟩ = some (.int .i64 p) ∧ w'.cell? ⟨w.heap.size + 1, k, none⟩ = some (.slice XA Xm.length Xc) ∧ Below wr.heap.size wr w')
        (first | with_reducible exact q1 | with_reducible exact q0)
        (first | ((go_at_call 45); (with_reducible refine (HC.out _ q0.2.2).mono ?_); rintro e w5 ⟨AF, cF, rfl, hoF, hbF⟩; have q1 := HF.out w5 (q0.2.2.trans (hbF.mono q0.2.2.size))))
      have HP5 := Lib.hid (HP.out.next q1.2.2)
      have HLF := Lib.hid (Lies.of_own hoF)
      have HFF := Lib.hid (show Fr wr.heap.size AF from Fr.own hoF)
      have HGL := Lib.hid HP.out.lt.2
      have HWB := Lib.hid HP.out.bl.size
      clear q0 q1 hoF hbF HC HF HP
      rw [HMS.out] at *
      by_cases hf : fdC p (toK a k L) = 0
      · have HE1 := Lib.hid (show firstE (foC p a L) (k + 1) = 0 from firstE_ok HE.out hf)
        have HD1 := Lib.hid (HD.out.set (e := ⟨AF, cF, fdR p (toK a k L)⟩) rfl)
        have HP6 := Lib.hid (HP5.out.put k ⟨AF, cF, fdR p (toK a k L)⟩ ⟨HLF.out, .inr (HFF.out.nb HGL.out)⟩ (HFF.out.low HWB.out))
        obtain ⟨y0, d0⟩ : ∃ y, w5.cell? ⟨g, k, none⟩ = some y := ⟨_, (HP5.out.own.cellAt k (by rw [HOL.out]; omega)).trans (lcl_at os k (by rw [HOL.out]; exact hka))⟩
        have f0 := HP5.out.own.frozenAt k
        unfold Le.v at HP6
        dsimp only at HP6
        rw [hf]
        clear hf HP5 HLF
        generalize fdR p (toK a k L) = R at *
        go_wp2_with fail
        go_roundw
        case rel => exact ⟨k + 1, _, by go_num, by omega, HD1, HP6, HE1⟩
        case measure => simp [intOf]; omega
      · have HE1 := Lib.hid (show firstE (foC p a L) a = fdC p (toK a k L) from firstE_bad HE.out hka hf)
        have HNE := Lib.hid hf
        have he1 : (fdC p (toK a k L) != 0) = true := by simpa using hf
        have HB5 := Lib.hid (HB2.out.trans (HP5.out.bl.mono HB2.out.size))
        clear hf
        generalize fdC p (toK a k L) = te at *
        go_wp2_with fail
        go_ret2
        refine ⟨HB5.out, .inr ?_⟩
        rw [HE1.out]
        exact ⟨HNE.out, rfl⟩
    · have hk' : k = a := by omega
      subst hk'
      have HB5 := Lib.hid (HB2.out.trans (HP.out.bl.mono HB2.out.size))
      have HLS := Lib.hid HP.out.lls
      have HGL := Lib.hid HP.out.lt.1
      have HFR := Lib.hid HP.out.fr
      have HEN := Lib.hid HD.out.end
      have HSZ := Lib.hid HB2.out.size
      go_wp2_with fail
      go_ret2
      refine ⟨HB5.out, .inl ⟨HE.out, some ⟨g, 0, none⟩, os, by rw [HOL.out]; rfl, HLS.out, HEN.out, fun ad e => ?_, fun e he => (HFR.out e he).low HSZ.out⟩⟩
      injection e with e
      rw [← e]
      exact Nat.le_trans HSZ.out HGL.out
end Go.Proofs.YtpgdddjjjfkneaaGreatDoor


