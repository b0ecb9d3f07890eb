import Derived.Test.YtdpmlpclhojcjaaEb
/-
  Words for a disk of the call's own, whose files' bytes are its own and apart; the contract of the program's own. No condition but that there are not too many files and bytes.
-/
namespace Go.Proofs.Ytdpmlpclhojcjaa
open Go.ChangeShapes Go.WideShapes Go.ChangeAt Go.RowKit
set_option linter.unusedVariables false

theorem field_d (A : Option Addr) (n c : Nat) (w : World) : (Instr.field 24 (.agg #[.slice A n c]) 0).run Try.prog w = .ok (.slice A n c) w := by kernel_rfl
/-- The bytes of two files lie in no one block. -/
def Ap (a b : Fe) : Prop := ∀ p q, a.A = some p → b.A = some q → p.block ≠ q.block
theorem OwnB.next {base : Nat} {A : Option Addr} {c : Nat} {b : List UInt8} {w w' : World} (h : OwnB base A c b w) (hb : Below w.heap.size w w') : OwnB base A c b w' := own_next h hb
theorem OwnB.low {base base' : Nat} {A : Option Addr} {c : Nat} {b : List UInt8} {w : World} (h : OwnB base A c b w) (hb : base' ≤ base) : OwnB base' A c b w := World.ownsRow.lower h hb
theorem OwnB.lt {base : Nat} {A : Option Addr} {c : Nat} {b : List UInt8} {w : World} (h : OwnB base A c b w) {p : Addr} (hp : A = some p) : base ≤ p.block ∧ p.block < w.heap.size := by
  subst hp
  exact World.ownsRow.lt h _ rfl
theorem OwnB.fd {base : Nat} {e : Fe} {w : World} (h : OwnB base e.A e.c e.dat w) : Fd w w.heap.size e := ⟨Lies.of_own h, own_cap h⟩
/-- The row of a list of files that is the call's own: its block, and what a cell's writing makes of it. -/
theorem own_at {W : World} {base n c : Nat} {A : Option Addr} {l : List Value} (h : W.ownsRow base 53 3 (.slice A n c) n l) (hn : 0 < n) : ∃ ad cur, A = some ad ∧ ad = ⟨ad.block, 0, none⟩ ∧ base ≤ ad.block ∧ W.heap[ad.block]? = some (.cells cur 53 (0, 0)) := by
  rcases h.2 with ⟨_, h0⟩ | ⟨g, cap, cur, hv, hb, hg, _⟩
  · omega
  · injection hv with e1 e2 e3
    subst e1
    exact ⟨_, cur, rfl, rfl, hb, hg⟩
theorem add_at (ad : Addr) (h : ad = ⟨ad.block, 0, none⟩) (j : Nat) : ad.add j = ⟨ad.block, j, none⟩ := by
  obtain ⟨b, o, sp⟩ := ad
  simp only [Addr.mk.injEq, true_and] at h
  obtain ⟨rfl, rfl⟩ := h
  unfold Addr.add
  split <;> simp_all
theorem own_put {W : World} {base n c s : Nat} {t : TypeId} {ad : Addr} {l : List Value} (h : W.ownsRow base t s (.slice (some ad) n c) n l) (j : Nat) (hj : j < n * s) (u : Value) : (W.setCell ⟨ad.block, j, none⟩ u).ownsRow base t s (.slice (some ad) n c) n (l.set j u) := by
  refine ⟨by rw [List.length_set]; exact h.1, ?_⟩
  rcases h.2 with ⟨hv, _⟩ | ⟨g, cap, cur, hv, hb, hg, h3, h4, h5, h6⟩
  · cases hv
  · injection hv with e1 e2 e3
    injection e1 with e1
    subst e1 e3
    refine .inr ⟨g, c, _, rfl, hb, set_heap hg u, h3, h4, by simpa using h5, ?_⟩
    rw [Array.toList_setIfInBounds, List.take_set, h6]
theorem fz_at {W : World} {ad : Addr} {cur : Array Value} (h : W.heap[ad.block]? = some (.cells cur 53 (0, 0))) (j : Nat) : W.frozen? ⟨ad.block, j, none⟩ = false := unfrozen h j
/-- A list of files under way: of those of Y the bytes are the call's own. -/
structure Ow (w3 : World) (D : Option Addr) (d n : Nat) (Y R : List Fe) (W : World) : Prop where
  bl : Below w3.heap.size w3 W
  ow : W.ownsRow w3.heap.size 53 3 (.slice D n d) n (fc (Y ++ R))
  el : ∀ e ∈ Y, OwnB w3.heap.size e.A e.c e.dat W
  ap : Y.Pairwise Ap
theorem Ow.next {w3 W W' : World} {D : Option Addr} {d n : Nat} {Y R : List Fe} (h : Ow w3 D d n Y R W) (hb : Below W.heap.size W W') : Ow w3 D d n Y R W' :=
  ⟨h.bl.trans (hb.mono h.bl.size), own_next h.ow hb, fun e he => (h.el e he).next hb, h.ap⟩
theorem fc_set1 (Y R : List Fe) (nm : ByteArray) (dat dat' : List UInt8) (sf : Int) (A A' : Option Addr) (c c' : Nat) : (fc (Y ++ ⟨nm, dat, sf, A, c⟩ :: R)).set (Y.length * 3 + 1) (.slice A' dat'.length c') = fc ((Y ++ [⟨nm, dat', sf, A', c'⟩]) ++ R) := by
  rw [fc_app, fc_app, fc_app, ← fc_len Y, List.append_assoc, List.set_append, if_neg (by omega), Nat.add_sub_cancel_left]
  rfl
theorem Ow.set {w3 W B : World} {D : Option Addr} {d n k : Nat} {Y R : List Fe} {nm : ByteArray} {dat : List UInt8} {sf : Int} {A G : Option Addr} {c gc : Nat} {ad : Addr} (h : Ow w3 D d n Y (⟨nm, dat, sf, A, c⟩ :: R) W) (hB : Ow w3 D d n Y (⟨nm, dat, sf, A, c⟩ :: R) B) (hk : Y.length = k) (hD : D = some ad)
    (hG : OwnB B.heap.size G gc dat W) :
    Ow w3 D d n (Y ++ [⟨nm, dat, sf, G, gc⟩]) R (W.setCell ⟨(ad.add (k * 3)).block, (ad.add (k * 3)).off + 1, none⟩ (.slice G dat.length gc)) := by
  subst hk
  have hl : Y.length < n := by have := h.ow.1; rw [fc_len, List.length_append, List.length_cons] at this; omega
  obtain ⟨ad', cur, e1, e2, hb, hg⟩ := own_at h.ow (by omega)
  rw [hD] at e1
  injection e1 with e1
  subst e1
  rw [add_at ad e2]
  show Ow w3 D d n _ R (W.setCell ⟨ad.block, Y.length * 3 + 1, none⟩ (.slice G dat.length gc))
  have hG' := World.ownsRow.lower (w := W) hG hB.bl.size
  refine ⟨h.bl.setCell (p := ⟨ad.block, _, none⟩) hb _, ?_, fun x hx => ?_, ?_⟩
  · rw [← fc_set1 Y R nm dat dat sf A G c gc]
    subst hD
    exact own_put h.ow _ (by omega) _
  · rcases List.mem_append.1 hx with hx | hx
    · exact ownsRow_setCell_other (h.el x hx) (a := ⟨ad.block, _, none⟩) (own_ne (h.el x hx) hg (by decide)) _
    · rw [List.mem_singleton.1 hx]
      exact ownsRow_setCell_other hG' (a := ⟨ad.block, _, none⟩) (own_ne hG' hg (by decide)) _
  · refine List.pairwise_append.2 ⟨h.ap, List.pairwise_singleton .., fun a ha b hb p q hp hq => ?_⟩
    rw [List.mem_singleton.1 hb] at hq
    have h1 := (OwnB.lt (hB.el a ha) hp).2
    have h2 := (OwnB.lt hG hq).1
    omega
/-- A disk's list of files of the call's own. -/
structure Oz (base : Nat) (D : Option Addr) (d : Nat) (X : List Fe) (W : World) : Prop where
  ow : W.ownsRow base 53 3 (.slice D X.length d) X.length (fc X)
  el : ∀ e ∈ X, OwnB base e.A e.c e.dat W
  ap : X.Pairwise Ap
theorem Oz.next {base : Nat} {W W' : World} {D : Option Addr} {d : Nat} {X : List Fe} (h : Oz base D d X W) (hb : Below W.heap.size W W') : Oz base D d X W' :=
  ⟨own_next h.ow hb, fun e he => (h.el e he).next hb, h.ap⟩
theorem Oz.low {base base' : Nat} {W : World} {D : Option Addr} {d : Nat} {X : List Fe} (h : Oz base D d X W) (hb : base' ≤ base) : Oz base' D d X W :=
  ⟨h.ow.lower hb, fun e he => (h.el e he).low hb, h.ap⟩
theorem Oz.setLow {base b o : Nat} {W : World} {D : Option Addr} {d : Nat} {X : List Fe} (h : Oz base D d X W) (hb : b < base) (u : Value) : Oz base D d X (W.setCell ⟨b, o, none⟩ u) :=
  ⟨own_setLow h.ow hb, fun e he => own_setLow (h.el e he) hb, h.ap⟩
theorem Oz.ls {base : Nat} {W : World} {D : Option Addr} {d : Nat} {X : List Fe} (h : Oz base D d X W) : Fls W W.heap.size D d X :=
  ⟨Lies.of_own h.ow, own_cap h.ow, fun e he => (h.el e he).fd⟩
/-- What answers a disk of the call's own. -/
def OwPost (t : List Fl) (w : World) (r : Ending) (w' : World) : Prop := Below w.heap.size w w' ∧ ∃ A c ls, r = .returned (.agg #[.slice A ls.length c]) ∧ Oz w.heap.size A c ls w' ∧ xs ls = t
def OwRel (ls : List Fe) (w3 : World) (D : Option Addr) (d n : Nat) (i : Value) (W : World) : Prop := ∃ (k : Nat) (Y : List Fe), i = .int .i64 k ∧ k ≤ ls.length ∧ Hid (Y.length = k) ∧ Hid (xs Y = xs (ls.take k)) ∧ Hid (Ow w3 D d n Y (ls.drop k) W)
set_option maxHeartbeats 4000000 in
set_option maxRecDepth 20000 in
theorem own_any (A : Option Addr) (c : Nat) (ls : List Fe) (w : World) (hA : Fls w w.heap.size A c ls) (hm : Mod ls) :
    Calls Try.prog 37 #[.agg #[.slice A ls.length c]] w (OwPost (goodOf (xs ls)) w) := by
  obtain ⟨iv, hiv, hzv, hzsv, hzbv⟩ := info_parts (show (Try.prog.info? 53).map (fun i => (i.zero, i.size, i.bytes)) = some (some (.agg #[.string ⟨#[]⟩, .slice none 0 0, .int .i64 0]), 3, 48) by kernel_rfl)
  have IV := Lib.hid hiv
  have ZV := Lib.hid hzv
  have SV := Lib.hid hzsv
  have BV := Lib.hid hzbv
  clear hiv hzv hzsv hzbv
  have HI := Lib.hid (Bb.init w (.slice A ls.length c) (.slice none 0 0))
  have CG := Lib.hid (taken_any A c ls _ (hA.next HI.out.bl) hm)
  have HG := Lib.hid (goodOf_good (xs ls))
  generalize goodOf (xs ls) = t at *
  have d0 : ((w.alloc (.cells #[.slice A ls.length c] 24)).alloc (.cells #[.slice none 0 0] 24)).cell? ⟨w.heap.size, 0, none⟩ = some (.slice A ls.length c) := HI.out.c0
  clear hA hm
  go_enter Try.func37, Try.ntmps37
  go_upto_region 1 with fail
  generalize (w.alloc (.cells #[.slice A ls.length c] 24)).alloc (.cells #[.slice none 0 0] 24) = w2 at HI CG d0 ⊢
  generalize Value.slice A ls.length c = v0 at HI
  go_wp2_with fail
  refine CG.out.mono ?_
  rintro e w3 ⟨hb3, A, c, ls, rfl, hL, hx⟩
  have HI3 := Lib.hid (HI.out.next hb3)
  have HL := Lib.hid hL
  have HX := Lib.hid hx
  have HN := Lib.hid (show ls.length ≤ 40 by have := HG.out.len; rw [← hx, xs_len] at this; exact this)
  have HDL := Lib.hid (show ∀ e ∈ ls, e.dat.length ≤ 20000 from fun e he => (HG.out.ok e.x (by rw [← hx]; exact List.mem_map_of_mem he)).2.2.1)
  have hn40 : ls.length ≤ 40 := HN.out
  have hfd := field_d
  clear d0 hb3 hL hx CG HI
  go_wp2_with (at_builtin; go_must (refine wpList_app2 _ rfl _ _ 22 rfl w3.heap.size 53 iv _ 3 48 Try.underlying22 IV.out ZV.out SV.out BV.out rfl (by decide) none 0 0 [] rfl (World.ownsRow_nil _ _ _ _) w3.heap.size A ls.length c (fc ls) rfl HL.out.L (fc_one _) ls.length (fc ls) (by omega) rfl (by unfold maxLen; omega) (by omega) (Nat.le_refl _) ?_))
  intro D d w4 ho4 hb4 hg4
  have HO4 := Lib.hid (show Ow w3 D d ls.length [] (ls.drop 0) w4 from ⟨hb4, ho4, fun e he => (by cases he), List.Pairwise.nil⟩)
  clear ho4 hb4 hg4 hfd
  go_wp2_with fail
  go_loopw [4, 11] (fun _ i W => OwRel ls w3 D d ls.length i W) (fun _ i W => ls.length - (intOf i).toNat)
  case atStart => exact ⟨0, [], rfl, Nat.zero_le _, Lib.hid rfl, Lib.hid rfl, HO4⟩
  case round =>
    obtain ⟨k, Y, rfl, hk, HY, HP, HO⟩ := hrel
    by_cases hlt : k < ls.length
    · have hkl : (k : Int) < (ls.length : Int) := by omega
      have HD := Lib.hid (fdrop_at ls k hlt)
      have HTK := Lib.hid (show xs (ls.take (k + 1)) = xs (ls.take k) ++ [(fAt ls k).x] by rw [ftake_at ls k hlt, xs_app]; rfl)
      have HE := Lib.hid (HL.out.at k hlt)
      have HDE := Lib.hid (HDL.out _ (fAt_mem ls k hlt))
      rw [HD.out] at HO
      generalize fAt ls k = m at *
      obtain ⟨nm, dat, sf, DA, dc⟩ := m
      have HLL := Lib.hid (show (Y ++ (⟨nm, dat, sf, DA, dc⟩ : Fe) :: ls.drop (k + 1)).length = ls.length ∧ fAt (Y ++ (⟨nm, dat, sf, DA, dc⟩ : Fe) :: ls.drop (k + 1)) k = ⟨nm, dat, sf, DA, dc⟩ by
        refine ⟨by rw [List.length_append, List.length_cons, List.length_drop, HY.out]; omega, ?_⟩
        unfold fAt
        rw [List.getD_eq_getElem?_getD, List.getElem?_append_right (by rw [HY.out]; exact Nat.le_refl _), HY.out, Nat.sub_self]
        rfl)
      have HLW := Lib.hid (show ∀ W, Ow w3 D d ls.length Y (⟨nm, dat, sf, DA, dc⟩ :: ls.drop (k + 1)) W → ∃ ad, D = some ad ∧ W.cell? ⟨(ad.add (k * 3)).block, (ad.add (k * 3)).off + 1, none⟩ = some (.slice DA dat.length dc) ∧ W.frozen? ⟨(ad.add (k * 3)).block, (ad.add (k * 3)).off + 1, none⟩ = false from fun W h => by
        obtain ⟨ad, e, _, _, h1, _⟩ := Lies.fe (by rw [HLL.out.1]; exact Lies.of_own h.ow) k (by rw [HLL.out.1]; exact hlt)
        rw [HLL.out.2] at h1
        obtain ⟨ad', cur, e1, e2, hb, hg⟩ := own_at h.ow (by omega)
        rw [e] at e1
        injection e1 with e1
        subst e1
        exact ⟨ad, e, h1, by rw [add_at ad e2]; exact fz_at hg _⟩)
      obtain ⟨ad, hD, c1, f1⟩ := HLW.out _ HO.out
      subst hD
      have hdl : dat.length ≤ 100000 := by have := HDE.out; simp only at this; omega
      have CC := Lib.hid (copied_any DA dc dat wr ((HE.out.1.below HO.out.bl).more HO.out.bl.size) hdl)
      clear f1
      go_wp2_with fail
      refine CC.out.mono ?_
      rintro e w5 ⟨G, gc, rfl, ho5, hb5⟩
      have HO5 := Lib.hid (HO.out.next hb5)
      obtain ⟨ad', hD', c1', f1'⟩ := HLW.out _ HO5.out
      injection hD' with hD'
      subst hD'
      have HO6 := Lib.hid (HO5.out.set HO.out HY.out rfl ho5)
      have HT := Lib.hid (show xs (Y ++ [(⟨nm, dat, sf, G, gc⟩ : Fe)]) = xs (ls.take (k + 1)) by rw [xs_app, HP.out, HTK.out]; rfl)
      have HYL := Lib.hid (show (Y ++ [(⟨nm, dat, sf, G, gc⟩ : Fe)]).length = k + 1 by rw [snoc_len, HY.out])
      clear c1 hb5 ho5
      go_wp2_with fail
      go_roundw
      case rel => exact ⟨k + 1, _, by go_num, by omega, HYL, HT, HO6⟩
      case measure => simp [intOf]; omega
    · have hk' : k = ls.length := by omega
      subst hk'
      have HQ := Lib.hid (show xs Y = t by rw [HP.out, List.take_length, HX.out])
      rw [List.drop_length] at HO
      have HI9 := Lib.hid (HI3.out.next HO.out.bl)
      have HZ := Lib.hid (show Oz w3.heap.size D d Y wr from ⟨by have := HO.out.ow; rw [List.append_nil] at this; rw [HY.out]; exact this, HO.out.el, HO.out.ap⟩)
      have d1 := HI9.out.c1
      have f1 := HI9.out.f1
      go_wp2_with fail
      refine bodyPost_ret (v := .agg #[.slice D ls.length d]) (by simp [results, Try.results37, go_sem, d1]) rfl ?_
      have hz3 := HI3.out.z
      exact ⟨(HI9.out.setR _).bl, D, d, Y, by rw [HY.out], (HZ.out.setLow (by omega) _).low (by omega), HQ.out⟩
end Go.Proofs.Ytdpmlpclhojcjaa
