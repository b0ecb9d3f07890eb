import Derived.Test.YtdpmlpclhojcjaaEd
/-
  A disk's variable in its box; the contracts of the program's Get and Names. No condition but that there are not too many files and bytes.
-/
namespace Go.Proofs.Ytdpmlpclhojcjaa
open Go.ChangeShapes Go.WideShapes Go.ChangeAt Go.RowKit
set_option linter.unusedVariables false

/-- A disk's variable. -/
structure Dx (w : World) (b : Nat) (A : Option Addr) (c : Nat) (ls : List Fe) (W : World) : Prop where
  bl : Below w.heap.size w W
  nb : W.heap[b]? = some (.cells #[.slice A ls.length c] 24 (0, 0))
  L : Fls W W.heap.size A c ls
  hb : w.heap.size ≤ b
section
variable {w W W' : World} {b : Nat} {A : Option Addr} {c : Nat} {ls : List Fe}
theorem Dx.next (h : Dx w b A c ls W) (hb : Below W.heap.size W W') : Dx w b A c ls W' :=
  ⟨h.bl.trans (hb.mono h.bl.size), (hb.block _ (lt_of_block h.nb)).trans h.nb, h.L.next hb, h.hb⟩
theorem Dx.c0 (h : Dx w b A c ls W) : W.cell? ⟨b, 0, none⟩ = some (.slice A ls.length c) := cell_of_row W b 0 _ 24 (0, 0) h.nb
theorem Dx.fz (h : Dx w b A c ls W) : W.frozen? ⟨b, 0, none⟩ = false := unfrozen h.nb 0
theorem Dx.set (h : Dx w b A c ls W) {A' : Option Addr} {c' : Nat} {ls' : List Fe} (hL : Fls W W.heap.size A' c' ls') : Dx w b A' c' ls' (W.setCell ⟨b, 0, none⟩ (.slice A' ls'.length c')) :=
  ⟨h.bl.setCell (p := ⟨b, 0, none⟩) h.hb _, set_heap h.nb _, by rw [size_set]; exact hL.setBox h.nb 0 _, h.hb⟩
theorem Dx.new {w W : World} (hb : Below w.heap.size w W) {A : Option Addr} {c : Nat} {ls : List Fe} (hL : Fls W W.heap.size A c ls) : Dx w W.heap.size A c ls (W.alloc (.cells #[.slice A ls.length c] 24)) :=
  ⟨hb.trans ((below_alloc _ _).mono hb.size), heap_alloc_new _ _, hL.next (below_alloc _ _), hb.size⟩
/-- Of an argument. -/
theorem Dx.arg {w : World} {A : Option Addr} {c : Nat} {ls : List Fe} (hL : Fls w w.heap.size A c ls) : Dx w w.heap.size A c ls (w.alloc (.cells #[.slice A ls.length c] 24)) :=
  ⟨below_alloc _ _, heap_alloc_new _ _, hL.next (below_alloc _ _), Nat.le_refl _⟩
end
theorem at_place {ls : List Fe} {n : By} (hr : Rises (xs ls)) (hh : hasF (xs ls) n = true) : place (xs ls) n < ls.length ∧ (fAt ls (place (xs ls) n)).nm.toList = n ∧ getF (xs ls) n = (fAt ls (place (xs ls) n)).dat ∧ safeF (xs ls) n = (fAt ls (place (xs ls) n)).safe := by
  obtain ⟨f, h1, h2⟩ := (place_has hr).1 hh
  have hlt := (List.getElem?_eq_some_iff.1 h1).1
  rw [xs_len] at hlt
  rw [xs_at ls _ hlt] at h1
  injection h1 with h1
  subst h1
  have hm : (fAt ls (place (xs ls) n)).x ∈ xs ls := List.mem_map_of_mem (fAt_mem ls _ hlt)
  obtain ⟨a, b⟩ := getF_of hr hm
  rw [h2] at a b
  exact ⟨hlt, h2, a, b⟩
set_option maxHeartbeats 2000000 in
set_option maxRecDepth 20000 in
theorem pget_any (A : Option Addr) (c : Nat) (ls : List Fe) (w : World) (hA : Fls w w.heap.size A c ls) (hm : Mod ls) (s : ByteArray) : Calls Try.prog 19 #[.agg #[.slice A ls.length c], .string s] w fun e w' => Below w.heap.size w w' ∧ ∃ G gc b, e = .returned (.tuple #[.slice G b.length gc, .int .i64 (syncE (goodOf (xs ls)) s.toList)]) ∧ b = getF (goodOf (xs ls)) s.toList ∧ Lies w' w'.heap.size 1 G b.length (bc b) ∧ b.length ≤ gc := by
  have HD := Lib.hid (Dx.arg hA)
  have CG := Lib.hid (taken_any A c ls _ HD.out.L hm)
  have HG := Lib.hid (goodOf_good (xs ls))
  have d0 := HD.out.c0
  generalize goodOf (xs ls) = t at *
  clear hA hm
  go_enter Try.func19, Try.ntmps19
  go_upto_region 1 with fail
  generalize w.alloc (.cells #[.slice A ls.length c] 24) = w1 at HD CG d0 ⊢
  go_wp2_with fail
  refine CG.out.mono ?_
  rintro e w2 ⟨hb2, A2, c2, l2, rfl, hL2, hx2⟩
  have HX := Lib.hid hx2
  have HDN := Lib.hid (HD.out.next hb2)
  have z1 := HDN.out.c0
  have zf := HDN.out.fz
  have HD2 := Lib.hid (HDN.out.set hL2)
  have HN := Lib.hid (show l2.length ≤ 40 by have := HG.out.len; rw [← hx2, xs_len] at this; exact this)
  clear hb2 hL2 hx2 d0 HDN HD CG
  go_upto_region 2 with fail
  generalize w2.setCell ⟨w.heap.size, 0, none⟩ (.slice A2 l2.length c2) = w3 at HD2 ⊢
  clear z1 zf
  have d0 := HD2.out.c0
  go_wp2_with fail
  refine (find_any A2 c2 l2 s _ HD2.out.L.L (by rw [HX.out]; exact HG.out.ris) (by have := HN.out; omega)).mono ?_
  rintro e w4 ⟨rfl, hb4⟩
  have HD4 := Lib.hid (HD2.out.next hb4)
  have HAP := Lib.hid (fun h => @at_place l2 s.toList (by rw [HX.out]; exact HG.out.ris) h)
  clear d0 hb4 HD2
  have d0 := HD4.out.c0
  rw [HX.out] at HAP ⊢
  generalize place t s.toList = p at *
  cases hh : hasF t s.toList with
  | false =>
    have HT := Lib.hid (show (4 : Int) = syncE t s.toList ∧ [] = getF t s.toList by unfold syncE; rw [hh]; exact ⟨rfl, (getF_none hh).1.symm⟩)
    clear hh
    go_wp2_with fail
    go_ret2
    exact ⟨HD4.out.bl, none, 0, [], by rw [← HT.out.1]; rfl, HT.out.2, Lies.nil, Nat.zero_le _⟩
  | true =>
    have HT := Lib.hid (show (0 : Int) = syncE t s.toList by unfold syncE; rw [hh]; rfl)
    obtain ⟨hpl, hnm, hgf, _⟩ := HAP.out hh
    have HQ := Lib.hid hgf
    have HFD := Lib.hid (HD4.out.L.at p hpl)
    obtain ⟨ad, rfl, hadb, c0, c1, _⟩ := HD4.out.L.L.fe p hpl
    have hpi : (p : Int) < (l2.length : Int) := by omega
    have HDL := Lib.hid (show (fAt l2 p).dat.length ≤ 20000 from (HG.out.ok (fAt l2 p).x (by rw [← HX.out]; exact List.mem_map_of_mem (fAt_mem l2 p hpl))).2.2.1)
    generalize fAt l2 p = m at *
    obtain ⟨nm, dat, sf, DA, dc⟩ := m
    simp only at c1 hgf hnm
    clear hh hgf hnm c0
    go_wp2_with fail
    refine (copied_any DA dc dat _ HFD.out.1 (by have := HDL.out; omega)).mono ?_
    rintro e w5 ⟨G, gc, rfl, ho5, hb5⟩
    have HO5 := Lib.hid ho5
    have HB5 := Lib.hid (below_then HD4.out.bl hb5)
    clear ho5 hb5 c1 d0
    go_wp2_with fail
    go_ret2
    exact ⟨HB5.out, G, gc, dat, by rw [← HT.out]; rfl, HQ.out.symm, Lies.of_own HO5.out, own_cap HO5.out⟩
def NmRel (ls : List Fe) (w1 : World) (o i : Value) (W : World) : Prop := ∃ (k : Nat) (ns : List ByteArray) (D : Option Addr) (d : Nat), i = .int .i64 k ∧ o = .slice D ns.length d ∧ k ≤ ls.length ∧ ns.length = k ∧ Hid (ns.map ByteArray.toList = (xs (ls.take k)).map Fl.name) ∧ Hid (Below w1.heap.size w1 W) ∧ Hid (W.ownsRow w1.heap.size 9 1 (.slice D ns.length d) ns.length (ns.map Value.string))
set_option maxHeartbeats 2000000 in
set_option maxRecDepth 20000 in
theorem pnames_any (A : Option Addr) (c : Nat) (ls : List Fe) (w : World) (hA : Fls w w.heap.size A c ls) (hm : Mod ls) : Calls Try.prog 22 #[.agg #[.slice A ls.length c]] w fun e w' => Below w.heap.size w w' ∧ ∃ G gc, ∃ ns : List ByteArray, e = .returned (.slice G ns.length gc) ∧ ns.map ByteArray.toList = (goodOf (xs ls)).map Fl.name ∧ Lies w' w'.heap.size 1 G ns.length (ns.map Value.string) := by
  obtain ⟨iv, hiv, hzv, hzsv, hzbv⟩ := info_parts (show (Try.prog.info? 9).map (fun i => (i.zero, i.size, i.bytes)) = some (some (.string ⟨#[]⟩), 1, 16) by kernel_rfl)
  have IV := Lib.hid hiv
  have ZV := Lib.hid hzv
  have SV := Lib.hid hzsv
  have BV := Lib.hid hzbv
  clear hiv hzv hzsv hzbv
  have HD := Lib.hid (Dx.arg hA)
  have CG := Lib.hid (taken_any A c ls _ HD.out.L hm)
  have HG := Lib.hid (goodOf_good (xs ls))
  have d0 := HD.out.c0
  generalize goodOf (xs ls) = t at *
  have hfd := field_d
  clear hA hm
  go_enter Try.func22, Try.ntmps22
  go_upto_region 1 with fail
  generalize w.alloc (.cells #[.slice A ls.length c] 24) = w1 at HD CG d0 ⊢
  go_wp2_with fail
  refine CG.out.mono ?_
  rintro e w2 ⟨hb2, A2, c2, l2, rfl, hL2, hx2⟩
  have HX := Lib.hid hx2
  have HL := Lib.hid hL2
  have HB2 := Lib.hid (HD.out.next hb2).bl
  have HN := Lib.hid (show l2.length ≤ 40 by have := HG.out.len; rw [← hx2, xs_len] at this; exact this)
  have hn40 : l2.length ≤ 40 := HN.out
  clear hb2 hL2 hx2 d0 HD CG
  go_wp2_with fail
  go_loopw [3, 10] (fun o i W => NmRel l2 w2 o i W) (fun o i W => l2.length - (intOf i).toNat)
  case atStart => exact ⟨0, [], none, 0, rfl, rfl, Nat.zero_le _, rfl, Lib.hid rfl, Lib.hid (Below.refl _ _), Lib.hid (World.ownsRow_nil _ _ _ _)⟩
  case round =>
    obtain ⟨k, ns, D, d, rfl, rfl, hk, hX, HP, HW, HO⟩ := hrel
    have HXK := Lib.hid hX
    have hns : ns.length ≤ 40 := by omega
    clear hX
    by_cases hlt : k < l2.length
    · obtain ⟨ad, rfl, hadb, e0, e1, e2⟩ := (HL.out.L.below HW.out).fe k hlt
      have hkl : (k : Int) < (l2.length : Int) := by omega
      have HTK := Lib.hid (show xs (l2.take (k + 1)) = xs (l2.take k) ++ [(fAt l2 k).x] by rw [ftake_at l2 k hlt, xs_app]; rfl)
      generalize fAt l2 k = m at *
      obtain ⟨nm, dat, sf, DA, dc⟩ := m
      simp only at e0 e1 e2
      have HQ := Lib.hid (show (ns ++ [nm]).map ByteArray.toList = (xs (l2.take (k + 1))).map Fl.name by rw [HTK.out, List.map_append, List.map_append, HP.out]; rfl)
      have HB4 := Lib.hid (below_alloc wr (.cells #[.string nm, .slice DA dat.length dc, .int .i64 sf] 53))
      have f0 : (wr.alloc (.cells #[.string nm, .slice DA dat.length dc, .int .i64 sf] 53)).cell? ⟨wr.heap.size, 0, none⟩ = some (.string nm) := by simp [go_sem]
      have HW4 := Lib.hid (HW.out.trans (HB4.out.mono HW.out.size))
      have HO4 := Lib.hid (own_next HO.out HB4.out)
      go_upto_region 5 with fail
      clear e0 e1 e2
      generalize wr.alloc (.cells #[.string nm, .slice DA dat.length dc, .int .i64 sf] 53) = w4 at HB4 f0 HW4 HO4 ⊢
      have HO9 := Lib.hid (own_next HO4.out (below_alloc w4 (.cells #[.string nm] 9)))
      have HL9 := Lib.hid (lies_new w4 (.string nm) 9 (w4.heap.size + 1) (Nat.lt_succ_self _))
      have HB9 := Lib.hid (HW4.out.trans ((below_alloc w4 (.cells #[.string nm] 9)).mono HW4.out.size))
      have h1s : ∀ u ∈ [Value.string nm], u.oneCell' = true := by intro u hu; rw [List.mem_singleton.1 hu]; rfl
      go_wp2_with (at_builtin; go_must (refine wpList_app2 _ rfl _ _ 47 rfl w2.heap.size 9 iv _ 1 16 Try.underlying47 IV.out ZV.out SV.out BV.out rfl (by decide) D ns.length d (ns.map Value.string) rfl HO9.out (w4.heap.size + 1) (some ⟨w4.heap.size, 0, none⟩) 1 1 [.string nm] rfl HL9.out h1s (ns.length + 1) (ns.map Value.string ++ [.string nm]) rfl rfl (by unfold maxLen; omega) (by omega) HB9.out.size ?_))
      intro A9 c9 w9 ho9 hb9 hg9
      have hl9 : (ns ++ [nm]).length = ns.length + 1 := by rw [List.length_append]; rfl
      have HO10 := Lib.hid (show w9.ownsRow w2.heap.size 9 1 (.slice A9 (ns ++ [nm]).length c9) (ns ++ [nm]).length ((ns ++ [nm]).map Value.string) by rw [hl9, List.map_append]; exact ho9)
      have HB10 := Lib.hid (HB9.out.trans hb9)
      clear ho9 hb9 hg9 h1s
      go_wp2_with fail
      go_roundw
      case rel => exact ⟨k + 1, ns ++ [nm], A9, c9, by go_num, by rw [hl9], by omega, by rw [hl9, HXK.out], HQ, HB10, HO10⟩
      case measure => simp [intOf]; omega
    · have hk' : k = l2.length := by omega
      subst hk'
      have HQ := Lib.hid (show ns.map ByteArray.toList = t.map Fl.name by rw [HP.out, List.take_length, HX.out])
      go_wp2_with fail
      go_ret
      exact ⟨below_then HB2.out HW.out, D, d, ns, rfl, HQ.out, Lies.of_own HO.out⟩
end Go.Proofs.Ytdpmlpclhojcjaa
