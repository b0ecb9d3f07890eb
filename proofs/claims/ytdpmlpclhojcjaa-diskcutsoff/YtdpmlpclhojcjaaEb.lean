import Derived.Test.YtdpmlpclhojcjaaEa
import Derived.Laws.Cover1
/-
  Words for a disk in its box beside the answer's room; the contracts of the program's Right and taken. No condition but that there are not too many files and bytes.
-/
namespace Go.Proofs.Ytdpmlpclhojcjaa
open Go.ChangeShapes Go.WideShapes Go.ChangeAt Go.RowKit
set_option linter.unusedVariables false

/-- What can lie in no box of one slice: a list whose first cell is none. -/
theorem lies_box {W : World} {B s n b : Nat} {A : Option Addr} {l : List Value} {u : Value} {X : Option Addr} {xn xc : Nat} {T : TypeId} {fr : Nat × Nat} (h : Lies W B s A n l) (h0 : l[0]? = some u) (hu : ∀ X xn xc, u ≠ .slice X xn xc) (nb : W.heap[b]? = some (.cells #[.slice X xn xc] T fr)) :
    ∃ ad, A = some ad ∧ ad.block ≠ b := by
  obtain ⟨ad, e, _, hc⟩ := h.2 0 u h0
  refine ⟨ad, e, fun hb => ?_⟩
  rw [show ad.add 0 = ad from add_zero ad] at hc
  subst hb
  unfold World.cell? at hc
  rw [nb] at hc
  simp only at hc
  cases hs : ad.spot.isSome with
  | true => rw [hs, if_pos rfl] at hc; cases hc
  | false =>
    rw [hs, if_neg (by simp)] at hc
    cases ho : ad.off with
    | zero => rw [ho] at hc; simp at hc; exact hu _ _ _ hc.symm
    | succ k => rw [ho] at hc; simp at hc
theorem Lies.setBox {W : World} {B s n b : Nat} {A : Option Addr} {l : List Value} {X : Option Addr} {xn xc : Nat} {T : TypeId} {fr : Nat × Nat} (h : Lies W B s A n l) (h0 : l = [] ∨ ∃ u, l[0]? = some u ∧ ∀ X xn xc, u ≠ .slice X xn xc) (nb : W.heap[b]? = some (.cells #[.slice X xn xc] T fr)) (i : Nat) (v : Value) :
    Lies (W.setCell ⟨b, i, none⟩ v) B s A n l := by
  rcases h0 with rfl | ⟨u, hu, hn⟩
  · exact ⟨h.1, fun j u hu => by simp at hu⟩
  · obtain ⟨ad, e, hb⟩ := lies_box h hu hn nb
    refine ⟨h.1, fun j x hx => ?_⟩
    obtain ⟨ad', e', hB, hc⟩ := h.2 j x hx
    rw [e] at e'
    injection e' with e'
    subst e'
    exact ⟨ad, e, hB, cell_set (by rw [block_add]; exact hb) hc⟩
theorem fc_first (ls : List Fe) : fc ls = [] ∨ ∃ u, (fc ls)[0]? = some u ∧ ∀ X xn xc, u ≠ .slice X xn xc := by
  cases ls with
  | nil => exact .inl rfl
  | cons e r => exact .inr ⟨.string e.nm, rfl, fun X xn xc h => by cases h⟩
theorem bc_first (l : List UInt8) : bc l = [] ∨ ∃ u, (bc l)[0]? = some u ∧ ∀ X xn xc, u ≠ .slice X xn xc := by
  cases l with
  | nil => exact .inl rfl
  | cons e r => exact .inr ⟨_, rfl, fun X xn xc h => by cases h⟩
theorem vc_first (l : List Int) : vc l = [] ∨ ∃ u, (vc l)[0]? = some u ∧ ∀ X xn xc, u ≠ .slice X xn xc := by
  cases l with
  | nil => exact .inl rfl
  | cons e r => exact .inr ⟨_, rfl, fun X xn xc h => by cases h⟩
theorem size_set (W : World) (p : Addr) (v : Value) : (W.setCell p v).heap.size = W.heap.size := by simp [World.setCell]
theorem Fls.setBox {W : World} {B b : Nat} {A : Option Addr} {c : Nat} {ls : List Fe} {X : Option Addr} {xn xc : Nat} {T : TypeId} {fr : Nat × Nat} (h : Fls W B A c ls) (nb : W.heap[b]? = some (.cells #[.slice X xn xc] T fr)) (i : Nat) (v : Value) : Fls (W.setCell ⟨b, i, none⟩ v) B A c ls :=
  ⟨h.L.setBox (fc_first ls) nb i v, h.cc, fun e he => ⟨(h.el e he).1.setBox (bc_first e.dat) nb i v, (h.el e he).2⟩⟩
/-- The name of the file ahead of a place. -/
def lastL (ls : List Fe) (k : Nat) : By := if k = 0 then [] else (fAt ls (k - 1)).nm.toList
theorem lastL_zero (ls : List Fe) : lastL ls 0 = [] := rfl
theorem lastL_succ (ls : List Fe) (k : Nat) : lastL ls (k + 1) = (fAt ls k).nm.toList := by unfold lastL; rw [if_neg (by omega)]; rfl
theorem cnd_last (ls : List Fe) (k : Nat) : cndB ls k = (okB (fAt ls k).x && decide (lastL ls k < (fAt ls k).nm.toList)) := by
  unfold cndB okB
  by_cases ho : okF (fAt ls k).x
  · rw [decide_eq_true ho, Bool.true_and, Bool.true_and]
    unfold preB lastL
    by_cases h0 : k = 0
    · rw [if_pos h0, if_pos h0]
      have hl := ho.1
      simp only [Fe.x] at hl
      cases hn : (fAt ls k).nm.toList with
      | nil => rw [hn] at hl; simp at hl
      | cons b r => simp [fitB]
    · rw [if_neg h0, if_neg h0]; rfl
  · rw [decide_eq_false ho, Bool.false_and, Bool.false_and]
def RgRel (ls : List Fe) (w : World) (la i : Value) (W : World) : Prop := ∃ (k : Nat) (lb : ByteArray), i = .int .i64 k ∧ la = .string lb ∧ k ≤ ls.length ∧ Hid (lb.toList = lastL ls k) ∧ Hid (goodB (xs ls) = risB (preB ls k) (xs (ls.drop k))) ∧ Hid (Below w.heap.size w W)
theorem dmod_at {ls : List Fe} (h : Mod ls) (k : Nat) (hk : k < ls.length) : (fAt ls k).dat.length ≤ 100000 ∧ (fAt ls k).nm.size ≤ 100000 := h.d _ (fAt_mem ls k hk)
set_option maxHeartbeats 4000000 in
theorem pright_any (A : Option Addr) (c : Nat) (ls : List Fe) (w : World) (hA : Lies w w.heap.size 3 A ls.length (fc ls)) (hm : Mod ls) :
    Calls Try.prog 12 #[.agg #[.slice A ls.length c]] w fun e w' => e = .returned (.bool (goodB (xs ls))) ∧ Below w.heap.size w w' := by
  have hn := hm.n
  have HM := Lib.hid hm
  have HB1 := Lib.hid (below_alloc w (.cells #[.slice A ls.length c] 24))
  have d0 : (w.alloc (.cells #[.slice A ls.length c] 24)).cell? ⟨w.heap.size, 0, none⟩ = some (.slice A ls.length c) := by simp [go_sem]
  have HA := Lib.hid (hA.next HB1.out)
  clear hA hm
  go_enter Try.func12, Try.ntmps12
  go_upto_region 1 with fail
  generalize w.alloc (.cells #[.slice A ls.length c] 24) = w1 at HB1 d0 HA ⊢
  by_cases h40 : ls.length ≤ 40
  · have h40i : ¬ (40 : Int) < (ls.length : Int) := by omega
    have HG0 := Lib.hid (show goodB (xs ls) = risB (preB ls 0) (xs (ls.drop 0)) by unfold goodB; rw [xs_len, decide_eq_true h40, Bool.true_and]; rfl)
    go_wp2_with fail
    go_loopw [3, 13] (fun la i W => RgRel ls w1 la i W) (fun la i W => ls.length - (intOf i).toNat)
    case atStart => exact ⟨0, ⟨#[]⟩, rfl, rfl, Nat.zero_le _, Lib.hid (by rw [ByteArray.toList_eq]; rfl), HG0, Lib.hid (Below.refl _ _)⟩
    case round =>
      obtain ⟨k, lb, rfl, rfl, hk, HLB, HP, HW⟩ := hrel
      by_cases hlt : k < ls.length
      · obtain ⟨ad, rfl, hadb, e0, e1, e2⟩ := (HA.out.below HW.out).fe k hlt
        have hkl : (k : Int) < (ls.length : Int) := by omega
        have HR := Lib.hid ((HP.out.trans (risB_step hlt)).trans (by rw [cnd_last ls k, ← HLB.out]))
        have HS := Lib.hid (lastL_succ ls k)
        have HMA := Lib.hid (dmod_at HM.out k hlt)
        generalize fAt ls k = m at *
        obtain ⟨nm, dat, sf, DA, dc⟩ := m
        simp only at e0 e1 e2 HS HMA HR
        have HB4 := Lib.hid (below_alloc wr (.cells #[.string nm, .slice DA dat.length dc, .int .i64 sf] 53))
        have f0 : (wr.alloc (.cells #[.string nm, .slice DA dat.length dc, .int .i64 sf] 53)).cell? ⟨wr.heap.size, 0, none⟩ = some (.string nm) := by simp [go_sem]
        have f1 : (wr.alloc (.cells #[.string nm, .slice DA dat.length dc, .int .i64 sf] 53)).cell? ⟨wr.heap.size, 1, none⟩ = some (.slice DA dat.length dc) := by simp [go_sem]
        have f2 : (wr.alloc (.cells #[.string nm, .slice DA dat.length dc, .int .i64 sf] 53)).cell? ⟨wr.heap.size, 2, none⟩ = some (.int .i64 sf) := by simp [go_sem]
        have HSZ := Lib.hid (show wr.heap.size < (wr.alloc (.cells #[.string nm, .slice DA dat.length dc, .int .i64 sf] 53)).heap.size by simp)
        have HW4 := Lib.hid (HW.out.trans (HB4.out.mono HW.out.size))
        go_upto_region 7 with fail
        clear e0 e1 e2
        generalize wr.alloc (.cells #[.string nm, .slice DA dat.length dc, .int .i64 sf] 53) = w4 at HB4 f0 f1 f2 HSZ HW4 ⊢
        go_wp2_with fail
        refine (maybe_any nm dat sf DA dc _ HMA.out.2 HMA.out.1).mono ?_
        rintro e w5 ⟨rfl, hb5⟩
        have HW5 := Lib.hid (HW4.out.trans (hb5.mono HW4.out.size))
        have g0 := (hb5.cell (p := ⟨wr.heap.size, 0, none⟩) HSZ.out).trans f0
        have HFZ := Lib.hid f0
        clear f0 f1 f2 hb5 HFZ
        cases ho : okB (Fe.x ⟨nm, dat, sf, DA, dc⟩) with
        | false =>
          have HT := Lib.hid (show goodB (xs ls) = false by rw [HR.out, ho]; rfl)
          clear ho
          go_wp2_with fail
          go_ret
          exact ⟨ret_bool HT.out.symm, HB1.out.trans (HW5.out.mono HB1.out.size)⟩
        | true =>
          by_cases hl : lb.toList < nm.toList
          · have HT := Lib.hid (show goodB (xs ls) = risB (preB ls (k + 1)) (xs (ls.drop (k + 1))) by rw [HR.out, ho, decide_eq_true hl]; rfl)
            have g6 : Op.bytesLess nm.toList lb.toList = false := by rw [less_of]; exact decide_eq_false (fun h => by_irrefl _ (by_trans h hl))
            have g7 : (nm.toList == lb.toList) = false := by
              cases h : (nm.toList == lb.toList) with
              | false => rfl
              | true => exact absurd (by simpa using h : nm.toList = lb.toList).symm (by_ne hl)
            clear ho hl
            go_wp2_with fail
            go_roundw
            case rel => exact ⟨k + 1, nm, by go_num, rfl, by omega, Lib.hid HS.out.symm, HT, HW5⟩
            case measure => simp [intOf]; omega
          · have HT := Lib.hid (show goodB (xs ls) = false by rw [HR.out, ho, decide_eq_false hl]; rfl)
            by_cases hg : nm.toList < lb.toList
            · have g6 : Op.bytesLess nm.toList lb.toList = true := by rw [less_of]; exact decide_eq_true hg
              clear ho hl hg
              go_wp2_with fail
              go_ret
              exact ⟨ret_bool HT.out.symm, HB1.out.trans (HW5.out.mono HB1.out.size)⟩
            · have g7 : (nm.toList == lb.toList) = true := by simpa using by_tri _ _ hg hl
              clear ho hl hg
              go_wp2_with fail
              go_ret
              exact ⟨ret_bool HT.out.symm, HB1.out.trans (HW5.out.mono HB1.out.size)⟩
      · have hk' : k = ls.length := by omega
        subst hk'
        have HT := Lib.hid (show goodB (xs ls) = true by rw [HP.out, List.drop_length]; rfl)
        go_wp2_with fail
        go_ret
        exact ⟨ret_bool HT.out.symm, HB1.out.trans (HW.out.mono HB1.out.size)⟩
  · have h40i : (40 : Int) < (ls.length : Int) := by omega
    have HT := Lib.hid (show goodB (xs ls) = false by unfold goodB; rw [xs_len, decide_eq_false h40, Bool.false_and])
    go_wp2_with fail
    go_ret
    exact ⟨ret_bool HT.out.symm, HB1.out⟩
section
variable {W : World} {b : Nat} {x : Value} {t : TypeId}
theorem c1_0 (h : W.heap[b]? = some (.cells #[x] t (0, 0))) : W.cell? ⟨b, 0, none⟩ = some x := cell_of_row W b 0 _ t (0, 0) h
theorem set1_at (h : W.heap[b]? = some (.cells #[x] t (0, 0))) (u : Value) : (W.setCell ⟨b, 0, none⟩ u).heap[b]? = some (.cells #[u] t (0, 0)) := set_heap h u
theorem set1_other {j : Nat} {o : Obj} (h : W.heap[j]? = some o) (hne : j ≠ b) (u : Value) : (W.setCell ⟨b, 0, none⟩ u).heap[j]? = some o := (Below.heap_setCell _ _ _ j hne).trans h
end
theorem own_setLow {W : World} {base : Nat} {e : TypeId} {s : Nat} {v : Value} {k : Nat} {xs : List Value} (h : W.ownsRow base e s v k xs) {b o : Nat} (hb : b < base) {u : Value} : (W.setCell ⟨b, o, none⟩ u).ownsRow base e s v k xs := by
  refine ownsRow_setCell_other h (a := ⟨b, o, none⟩) ?_ u
  intro hv
  have := (h.lt _ hv).1
  simp only at this
  omega
/-- A disk stands boxed in the first block behind w, the answer's room is the second. -/
structure Bb (w : World) (v r : Value) (W : World) : Prop where
  z : w.heap.size + 2 ≤ W.heap.size
  h0 : W.heap[w.heap.size]? = some (.cells #[v] 24 (0, 0))
  h1 : W.heap[w.heap.size + 1]? = some (.cells #[r] 24 (0, 0))
  bl : Below w.heap.size w W
section
variable {w W W' : World} {v r : Value}
theorem Bb.next (h : Bb w v r W) (hb : Below W.heap.size W W') : Bb w v r W' :=
  ⟨Nat.le_trans h.z hb.size, (hb.block _ (by have := h.z; omega)).trans h.h0, (hb.block _ (by have := h.z; omega)).trans h.h1, h.bl.trans (hb.mono h.bl.size)⟩
theorem Bb.init (w : World) (v r : Value) : Bb w v r ((w.alloc (.cells #[v] 24)).alloc (.cells #[r] 24)) := by
  refine ⟨by simp, ?_, ?_, ((Below.refl _ w).alloc (Nat.le_refl _) _).alloc (by simp) _⟩
  · exact (Below.heap_alloc _ _ _ (by simp)).trans (heap_alloc_new w _)
  · have := heap_alloc_new (w.alloc (.cells #[v] 24)) (.cells #[r] 24)
    rwa [World.size_alloc] at this
theorem Bb.setV (h : Bb w v r W) (u : Value) : Bb w u r (W.setCell ⟨w.heap.size, 0, none⟩ u) :=
  ⟨by have := h.z; simpa [World.setCell] using this, set1_at h.h0 u, set1_other h.h1 (by omega) u, h.bl.setCell (p := ⟨w.heap.size, 0, none⟩) (Nat.le_refl _) u⟩
theorem Bb.setR (h : Bb w v r W) (u : Value) : Bb w v u (W.setCell ⟨w.heap.size + 1, 0, none⟩ u) :=
  ⟨by have := h.z; simpa [World.setCell] using this, set1_other h.h0 (by omega) u, set1_at h.h1 u, h.bl.setCell (p := ⟨w.heap.size + 1, 0, none⟩) (Nat.le_succ _) u⟩
theorem Bb.c0 (h : Bb w v r W) : W.cell? ⟨w.heap.size, 0, none⟩ = some v := c1_0 h.h0
theorem Bb.c1 (h : Bb w v r W) : W.cell? ⟨w.heap.size + 1, 0, none⟩ = some r := c1_0 h.h1
theorem Bb.f0 (h : Bb w v r W) : W.frozen? ⟨w.heap.size, 0, none⟩ = false := unfrozen h.h0 0
theorem Bb.f1 (h : Bb w v r W) : W.frozen? ⟨w.heap.size + 1, 0, none⟩ = false := unfrozen h.h1 0
end
/-- What answers a disk. -/
def DkPost (t : List Fl) (w : World) (r : Ending) (w' : World) : Prop := Below w.heap.size w w' ∧ ∃ A c ls, r = .returned (.agg #[.slice A ls.length c]) ∧ Fls w' w'.heap.size A c ls ∧ xs ls = t
/-- What answers a disk, and an error. -/
def DePost (t : List Fl) (n : Int) (w : World) (r : Ending) (w' : World) : Prop := Below w.heap.size w w' ∧ ∃ A c ls, r = .returned (.tuple #[.agg #[.slice A ls.length c], .int .i64 n]) ∧ Fls w' w'.heap.size A c ls ∧ xs ls = t
set_option maxHeartbeats 2000000 in
set_option maxRecDepth 20000 in
theorem taken_any (A : Option Addr) (c : Nat) (ls : List Fe) (w : World) (hA : Fls w w.heap.size A c ls) (hm : Mod ls) :
    Calls Try.prog 34 #[.agg #[.slice A ls.length c]] w (DkPost (goodOf (xs ls)) w) := by
  have HM := Lib.hid hm
  have HI := Lib.hid (Bb.init w (.slice A ls.length c) (.slice none 0 0))
  have HA := Lib.hid (hA.next HI.out.bl)
  have d0 : ((w.alloc (.cells #[.slice A ls.length c] 24)).alloc (.cells #[.slice none 0 0] 24)).cell? ⟨w.heap.size, 0, none⟩ = some (.slice A ls.length c) := HI.out.c0
  clear hA hm
  go_enter Try.func34, Try.ntmps34
  go_upto_region 1 with fail
  generalize (w.alloc (.cells #[.slice A ls.length c] 24)).alloc (.cells #[.slice none 0 0] 24) = w2 at HI HA d0 ⊢
  go_wp2_with fail
  refine (pright_any A c ls _ HA.out.L HM.out).mono ?_
  rintro e w3 ⟨rfl, hb3⟩
  have HI3 := Lib.hid (HI.out.next hb3)
  have HA3 := Lib.hid (HA.out.next hb3)
  clear hb3 d0
  have d0 := HI3.out.c0
  have d1 := HI3.out.c1
  have f1 := HI3.out.f1
  cases hg : goodB (xs ls) with
  | true =>
    have HT := Lib.hid (show xs ls = goodOf (xs ls) by unfold goodOf; rw [hg]; rfl)
    clear hg
    go_wp2_with fail
    refine bodyPost_ret (v := .agg #[.slice A ls.length c]) (by simp [results, Try.results34, go_sem, d1]) rfl ?_
    exact ⟨(HI3.out.setR _).bl, A, c, ls, rfl, by rw [size_set]; exact HA3.out.setBox HI3.out.h1 0 _, HT.out⟩
  | false =>
    have HT := Lib.hid (show xs [] = goodOf (xs ls) by unfold goodOf; rw [hg]; rfl)
    clear hg
    go_wp2_with fail
    refine bodyPost_ret (v := .agg #[.slice none 0 0]) (by simp [results, Try.results34, go_sem, d1]) rfl ?_
    exact ⟨(HI3.out.setR _).bl, none, 0, [], rfl, Fls.no _ _, HT.out⟩
end Go.Proofs.Ytdpmlpclhojcjaa
