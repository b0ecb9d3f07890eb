import Derived.Test.YtdpmlpclhojcjaaDg
/-
  The contract of the document's own Crash. No condition but that there are not too many files and numbers.
-/
namespace Go.Proofs.Ytdpmlpclhojcjaa
open Go.ChangeShapes Go.WideShapes Go.ChangeAt Go.RowKit
set_option linter.unusedVariables false

theorem lt_of_block {W : World} {b : Nat} {o : Obj} (h : W.heap[b]? = some o) : b < W.heap.size := (Array.getElem?_eq_some_iff.1 h).1
theorem unfrozen {W : World} {b : Nat} {cs : Array Value} {T : TypeId} (h : W.heap[b]? = some (.cells cs T (0, 0))) (i : Nat) : W.frozen? ⟨b, i, none⟩ = false := by simp [World.frozen?, h]
theorem set_heap {W : World} {g i : Nat} {cur : Array Value} {t : TypeId} (h : W.heap[g]? = some (.cells cur t (0, 0))) (v : Value) : (W.setCell ⟨g, i, none⟩ v).heap[g]? = some (.cells (cur.setIfInBounds i v) t (0, 0)) := by
  rw [setCell_eq_setRow W g i cur t (0, 0) v h]
  exact setRow_heap W g cur _ t (0, 0) h
theorem own_ne {w : World} {b s n bn : Nat} {e t : TypeId} {v : Value} {xs : List Value} {cs : Array Value} {fr : Nat × Nat} (h : w.ownsRow b e s v n xs) (hb : w.heap[bn]? = some (.cells cs t fr)) (ht : t ≠ e) : v.ownBlock ≠ some bn := by
  intro hv
  rcases h.2 with ⟨rfl, _⟩ | ⟨g, cap, cur, rfl, _, hh, _⟩
  · simp [Value.ownBlock] at hv
  · have : g = bn := by simpa [Value.ownBlock] using hv
    subst this
    rw [hh] at hb
    injection hb with hb
    injection hb with _ h2
    exact ht h2.symm
/-- A file of the call's own, under way: its box, and its bytes. -/
structure Cp (wb : World) (bo : Nat) (nm : ByteArray) (z : Int) (D : Option Addr) (d : Nat) (Y : List UInt8) (W : World) : Prop where
  bl : Below wb.heap.size wb W
  nb : W.heap[bo]? = some (.cells #[.string nm, .slice D Y.length d, .int .i64 z] 50 (0, 0))
  y : W.ownsRow wb.heap.size 5 1 (.slice D Y.length d) Y.length (bc Y)
  hb : wb.heap.size ≤ bo
section
variable {wb : World} {bo : Nat} {nm : ByteArray} {z : Int} {D : Option Addr} {d : Nat} {Y : List UInt8} {W W' : World}
theorem Cp.lt (h : Cp wb bo nm z D d Y W) : bo < W.heap.size := lt_of_block h.nb
theorem Cp.next (h : Cp wb bo nm z D d Y W) (hb : Below W.heap.size W W') : Cp wb bo nm z D d Y W' :=
  ⟨h.bl.trans (hb.mono h.bl.size), (hb.block _ h.lt).trans h.nb, own_next h.y hb, h.hb⟩
theorem Cp.start (wb : World) (nm : ByteArray) : Cp wb wb.heap.size nm 0 none 0 [] (wb.alloc (.cells #[.string nm, .slice none 0 0, .int .i64 0] 50)) :=
  ⟨below_alloc _ _, heap_alloc_new _ _, World.ownsRow_nil _ _ _ _, Nat.le_refl _⟩
theorem Cp.c0 (h : Cp wb bo nm z D d Y W) : W.cell? ⟨bo, 0, none⟩ = some (.string nm) := cell_of_row W bo 0 _ 50 (0, 0) h.nb
theorem Cp.c1 (h : Cp wb bo nm z D d Y W) : W.cell? ⟨bo, 1, none⟩ = some (.slice D Y.length d) := cell_of_row W bo 1 _ 50 (0, 0) h.nb
theorem Cp.c2 (h : Cp wb bo nm z D d Y W) : W.cell? ⟨bo, 2, none⟩ = some (.int .i64 z) := cell_of_row W bo 2 _ 50 (0, 0) h.nb
theorem Cp.fz (h : Cp wb bo nm z D d Y W) (i : Nat) : W.frozen? ⟨bo, i, none⟩ = false := unfrozen h.nb i
theorem Cp.blk (h : Cp wb bo nm z D d Y W) {b s m : Nat} {e : TypeId} {u : Value} {xs : List Value} (ho : W.ownsRow b e s u m xs) (he : (50 : TypeId) ≠ e) (hg : W.grownBy W' u.ownBlock) :
    W'.heap[bo]? = some (.cells #[.string nm, .slice D Y.length d, .int .i64 z] 50 (0, 0)) :=
  (hg.block _ h.lt (fun e1 => own_ne ho h.nb he e1.symm)).trans h.nb
/-- A byte is appended. -/
theorem Cp.put (h : Cp wb bo nm z D d Y W) {A9 : Option Addr} {c9 j : Nat} {ys : List UInt8} (hj : j = Y.length + ys.length) (ho : W'.ownsRow wb.heap.size 5 1 (.slice A9 j c9) j (bc Y ++ bc ys)) (hb : Below wb.heap.size W W') (hg : W.grownBy W' (Value.slice D Y.length d).ownBlock) :
    Cp wb bo nm z A9 c9 (Y ++ ys) (W'.setCell ⟨bo, 1, none⟩ (.slice A9 j c9)) ∧ W'.cell? ⟨bo, 1, none⟩ = some (.slice D Y.length d) ∧ W'.frozen? ⟨bo, 1, none⟩ = false := by
  have hl : (Y ++ ys).length = j := by rw [List.length_append, hj]
  have nb := h.blk h.y (by decide) hg
  rw [← bc_append] at ho
  refine ⟨⟨(h.bl.trans hb).setCell (p := ⟨bo, 1, none⟩) h.hb _, ?_, ?_, h.hb⟩, cell_of_row W' bo 1 _ 50 (0, 0) nb, unfrozen nb 1⟩
  · rw [hl]; exact set_heap nb _
  · rw [hl]; exact ownsRow_setCell_other ho (a := ⟨bo, 1, none⟩) (own_ne ho nb (by decide)) _
/-- How much lasts is written. -/
theorem Cp.last (h : Cp wb bo nm z D d Y W) (x : Int) : Cp wb bo nm x D d Y (W.setCell ⟨bo, 2, none⟩ (.int .i64 x)) :=
  ⟨h.bl.setCell (p := ⟨bo, 2, none⟩) h.hb _, set_heap h.nb _, ownsRow_setCell_other h.y (a := ⟨bo, 2, none⟩) (own_ne h.y h.nb (by decide)) _, h.hb⟩
end
/-- A list of files of the call's own, whose bytes are its own too. -/
structure Fz (w1 : World) (D : Option Addr) (d : Nat) (X : List Fe) (W : World) : Prop where
  bl : Below w1.heap.size w1 W
  ow : W.ownsRow w1.heap.size 50 3 (.slice D X.length d) X.length (fc X)
  el : ∀ e ∈ X, W.ownsRow w1.heap.size 5 1 (.slice e.A e.dat.length e.c) e.dat.length (bc e.dat)
theorem Fz.next {w1 W W' : World} {D : Option Addr} {d : Nat} {X : List Fe} (h : Fz w1 D d X W) (hb : Below W.heap.size W W') : Fz w1 D d X W' :=
  ⟨h.bl.trans (hb.mono h.bl.size), own_next h.ow hb, fun e he => own_next (h.el e he) hb⟩
theorem Fz.no (w1 : World) : Fz w1 none 0 [] w1 := ⟨Below.refl _ _, World.ownsRow_nil _ _ _ _, fun e he => by cases he⟩
theorem Fz.ls {w1 W : World} {D : Option Addr} {d : Nat} {X : List Fe} (h : Fz w1 D d X W) : Fls W W.heap.size D d X :=
  ⟨Lies.of_own h.ow, own_cap h.ow, fun e he => ⟨Lies.of_own (h.el e he), own_cap (h.el e he)⟩⟩
theorem Fz.snoc {w1 W W' : World} {D A9 : Option Addr} {d c9 n : Nat} {X : List Fe} {e : Fe} (h : Fz w1 D d X W) (hn : n = X.length + 1) (ho : W'.ownsRow w1.heap.size 50 3 (.slice A9 n c9) n (fc X ++ fc [e])) (hb : Below w1.heap.size W W') (hg : W.grownBy W' (Value.slice D X.length d).ownBlock)
    (he : W.ownsRow w1.heap.size 5 1 (.slice e.A e.dat.length e.c) e.dat.length (bc e.dat)) : Fz w1 A9 c9 (X ++ [e]) W' := by
  have hl : (X ++ [e]).length = n := by rw [List.length_append]; exact hn.symm
  refine ⟨h.bl.trans hb, by rw [hl, fc_app]; exact ho, fun x hx => ?_⟩
  rcases List.mem_append.1 hx with hx | hx
  · exact own_apart (h.el x hx) h.ow hg (by decide)
  · rw [List.mem_singleton.1 hx]; exact own_apart he h.ow hg (by decide)
theorem crash_next {d : List Fl} {l : List Int} {i : Nat} {f : Fl} (h : d[i]? = some f) : (crash d l).take (i + 1) = (crash d l).take i ++ [crF f (l[i]?.getD 0)] := by
  rw [List.take_add_one, crash_at, h]; rfl
theorem left_cut {f : Fl} (h : okF f) (k : Int) : left f k ≤ f.data.length := (left_in h k).2
/-- The byte at a place. -/
def uAt (l : List UInt8) (k : Nat) : UInt8 := l.getD k 0
theorem utake_at (l : List UInt8) (k : Nat) (h : k < l.length) : l.take (k + 1) = l.take k ++ [uAt l k] := by
  have e : uAt l k = l[k] := by unfold uAt; rw [List.getD_eq_getElem?_getD, List.getElem?_eq_getElem h]; rfl
  rw [e]; exact List.take_succ_eq_append_getElem h
theorem Lies.ub {w : World} {B : Nat} {A : Option Addr} {n : Nat} {l : List UInt8} (h : Lies w B 1 A n (bc l)) (k : Nat) (hk : k < l.length) : ∃ ad, A = some ad ∧ ad.block < B ∧ w.cell? (ad.add k) = some (.int .u8 ((uAt l k).toNat : Int)) := by
  have e : uAt l k = l[k] := by unfold uAt; rw [List.getD_eq_getElem?_getD, List.getElem?_eq_getElem hk]; rfl
  exact h.2 k _ (by unfold bc; rw [e]; simp [List.getElem?_eq_getElem hk])
theorem take_min_yes {l : List UInt8} {k m : Nat} (h : k < l.length) (g : k < m) : l.take (min (k + 1) m) = l.take (min k m) ++ [uAt l k] := by
  rw [Nat.min_eq_left (by omega), Nat.min_eq_left (by omega), utake_at l k h]
theorem take_min_no {l : List UInt8} {k m : Nat} (g : ¬ k < m) : l.take (min (k + 1) m) = l.take (min k m) := by
  rw [Nat.min_eq_right (by omega), Nat.min_eq_right (by omega)]
def CiRel (wb : World) (nm : ByteArray) (dat : List UInt8) (m : Nat) (k : Value) (W : World) : Prop := ∃ (j : Nat) (D : Option Addr) (d : Nat), k = .int .i64 j ∧ j ≤ dat.length ∧ Hid (Cp wb wb.heap.size nm 0 D d (dat.take (min j m)) W)
def CrRel (ls : List Fe) (l : List Int) (w1 : World) (o i : Value) (W : World) : Prop := ∃ (k : Nat) (D : Option Addr) (d : Nat) (X : List Fe), i = .int .i64 k ∧ o = .slice D X.length d ∧ k ≤ ls.length ∧ X.length = k ∧ Hid (xs X = (crash (xs ls) l).take k) ∧ Hid (Fz w1 D d X W)
set_option maxRecDepth 20000 in
set_option maxHeartbeats 8000000 in
theorem rcrash_any (A : Option Addr) (c : Nat) (ls : List Fe) (KA : Option Addr) (kc : Nat) (l : List Int) (w : World) (hA : Fls w w.heap.size A c ls) (hK : Lies w w.heap.size 1 KA l.length (vc l)) (hn : ls.length ≤ 100000) (hl : l.length ≤ 100000) :
    Calls Try.prog 33 #[.slice A ls.length c, .slice KA l.length kc] w (FlPost (crash (goodOf (xs ls)) l) w) := by
  obtain ⟨iv, hiv, hzv, hzsv, hzbv⟩ := info_parts (show (Try.prog.info? 50).map (fun i => (i.zero, i.size, i.bytes)) = some (some (.agg #[.string ⟨#[]⟩, .slice none 0 0, .int .i64 0]), 3, 48) by kernel_rfl)
  have IV := Lib.hid hiv
  have ZV := Lib.hid hzv
  have SV := Lib.hid hzsv
  have BV := Lib.hid hzbv
  clear hiv hzv hzsv hzbv
  obtain ⟨jv, hjv, hzv, hzsv, hzbv⟩ := info_parts (show (Try.prog.info? 5).map (fun i => (i.zero, i.size, i.bytes)) = some (some (.int .u8 0), 1, 1) by kernel_rfl)
  have JV := Lib.hid hjv
  have ZJ := Lib.hid hzv
  have SJ := Lib.hid hzsv
  have BJ := Lib.hid hzbv
  clear hjv hzv hzsv hzbv
  have CG := Lib.hid (good_any A c ls w hA (by omega))
  have HG := Lib.hid (goodOf_good (xs ls))
  generalize goodOf (xs ls) = d at *
  have HK0 := Lib.hid hK
  clear hA hn hK
  go_enter Try.func33, Try.ntmps33
  go_wp2_with fail
  refine CG.out.mono ?_
  rintro e w1 ⟨hb1, A, c, ls, rfl, hL, hx⟩
  have HB := Lib.hid hb1
  have HL := Lib.hid hL
  have HX := Lib.hid hx
  have HK := Lib.hid (HK0.out.next hb1)
  have HN := Lib.hid (show ls.length ≤ 40 by have := HG.out.len; rw [← hx, xs_len] at this; exact this)
  clear hb1 hL hx CG HK0
  go_wp2_with fail
  go_loopw [5, 6, 7, 8] (fun o i _ _ W => CrRel ls l w1 o i W) (fun o i _ _ W => ls.length - (intOf i).toNat)
  case atStart => exact ⟨0, none, 0, [], rfl, rfl, Nat.zero_le _, rfl, Lib.hid rfl, Lib.hid (Fz.no w1)⟩
  case round =>
    obtain ⟨i, D, d', X, rfl, rfl, hi, hXi, HP, HO⟩ := hrel
    have HXI := Lib.hid hXi
    have hX40 : X.length ≤ 40 := by have := HN.out; omega
    have hi40 : i ≤ 40 := by have := HN.out; omega
    clear hXi
    by_cases hlt : i < ls.length
    · obtain ⟨ad, rfl, hadb, e0, e1, e2⟩ := (HL.out.L.below HO.out.bl).fe i hlt
      have hkl : (i : Int) < (ls.length : Int) := by omega
      have HOK := Lib.hid (show okF (fAt ls i).x from HG.out.ok _ (by rw [← HX.out]; exact List.mem_map_of_mem (fAt_mem ls i hlt)))
      have HED := Lib.hid (HL.out.at i hlt)
      have HD := Lib.hid (show (crash (xs ls) l).take (i + 1) = (crash (xs ls) l).take i ++ [crF (fAt ls i).x (l[i]?.getD 0)] from crash_next (by unfold xs; rw [List.getElem?_map, List.getElem?_eq_getElem hlt, fAt_get ls i hlt]; rfl))
      have HCE := Lib.hid (show ∀ W : World, Below w1.heap.size w1 W → W.cell? (ad.add (i * 3)) = some (.string (fAt ls i).nm) ∧ W.cell? ⟨(ad.add (i * 3)).block, (ad.add (i * 3)).off + 1, none⟩ = some (.slice (fAt ls i).A (fAt ls i).dat.length (fAt ls i).c) ∧ W.cell? ⟨(ad.add (i * 3)).block, (ad.add (i * 3)).off + 2, none⟩ = some (.int .i64 (fAt ls i).safe) from fun W hb => by
        obtain ⟨ad', ea, _, h0, h1, h2⟩ := (HL.out.L.below hb).fe i hlt
        injection ea with ea
        subst ea
        exact ⟨h0, h1, h2⟩)
      generalize fAt ls i = m at *
      obtain ⟨nm, dat, sf, DA, dc⟩ := m
      simp only at e0 e1 e2 HCE HED
      have hd20 : dat.length ≤ 20000 := HOK.out.2.2.1
      have hs0 : 0 ≤ sf := HOK.out.2.2.2.1
      have hs1 : sf ≤ (dat.length : Int) := HOK.out.2.2.2.2
      have HLI := Lib.hid (fun j hj => left_iff HOK.out (l[i]?.getD 0) j hj)
      have HLL := Lib.hid (left_cut HOK.out (l[i]?.getD 0))
      have HCR := Lib.hid (show crF (Fe.x ⟨nm, dat, sf, DA, dc⟩) (l[i]?.getD 0) = ⟨nm.toList, dat.take (left (Fe.x ⟨nm, dat, sf, DA, dc⟩) (l[i]?.getD 0)), (left (Fe.x ⟨nm, dat, sf, DA, dc⟩) (l[i]?.getD 0) : Nat)⟩ from rfl)
      obtain ⟨q, hq⟩ : ∃ q, q = left (Fe.x ⟨nm, dat, sf, DA, dc⟩) (l[i]?.getD 0) := ⟨_, rfl⟩
      rw [← hq] at HLI HLL HCR
      simp only [Fe.x] at HLI HLL
      clear hq
      have HCP := Lib.hid (Cp.start wr nm)
      have HWB := Lib.hid (show ∀ W, Below wr.heap.size wr W → Below w1.heap.size w1 W from fun W hb => HO.out.bl.trans (hb.mono HO.out.bl.size))
      obtain ⟨wo, hwo⟩ : ∃ wo : World, wo = wr := ⟨_, rfl⟩
      rw [← hwo] at HCP HWB HO e0 e1 e2
      rw [← hwo]
      clear hwo
      go_upto_region 7 with fail
      clear e0 e1 e2
      go_wp2_with fail
      go_loopw [8] (fun k W => CiRel wo nm dat q k W) (fun k W => dat.length - (intOf k).toNat)
      case atStart => exact ⟨0, none, 0, rfl, Nat.zero_le _, by simpa using HCP⟩
      case round =>
        obtain ⟨j, F, fcp, rfl, hj, HC⟩ := hrel
        obtain ⟨e0, e1, e2⟩ := HCE.out _ (HWB.out _ HC.out.bl)
        have x0 := HC.out.c0
        have x1 := HC.out.c1
        have x2 := HC.out.c2
        by_cases hlj : j < dat.length
        · have hjl : (j : Int) < (dat.length : Int) := by omega
          have HIF := Lib.hid (HLI.out j hlj)
          by_cases g1 : (j : Int) < sf
          · have YQ := Lib.hid (HIF.out.2 (.inl g1))
            go_upto_region 10 with fail
            go_quiet (fail)
            have HC2 := Lib.hid (HC.out.next (below_to_drewN (Below.refl _ wr) nq))
            generalize wr.drewN nq = wq at HC2 ⊢
            go_upto_region 11 with fail
            clear e0 e1 e2 x0 x1 x2
            obtain ⟨db, rfl, hdb, eb⟩ := (HED.out.1.below (HWB.out _ HC2.out.bl)).ub j hlj
            obtain ⟨e0, e1, e2⟩ := HCE.out _ (HWB.out _ HC2.out.bl)
            have x1 := HC2.out.c1
            have HT := Lib.hid (take_min_yes hlj YQ.out)
            have hY : (dat.take (min j q)).length ≤ 20000 := by rw [List.length_take]; omega
            generalize dat.take (min j q) = Y at *
            have HP7 := Lib.hid ((HC2.out.next (below_alloc wq (.cells #[.int .u8 ((uAt dat j).toNat : Int)] 5))).next (Below.refl _ (wq.alloc (.cells #[.int .u8 ((uAt dat j).toNat : Int)] 5))).drew)
            have HL7 := Lib.hid (show Lies (wq.alloc (.cells #[.int .u8 ((uAt dat j).toNat : Int)] 5)).drew (wq.heap.size + 1) 1 (some ⟨wq.heap.size, 0, none⟩) 1 (bc [uAt dat j]) from lies_new wq _ 5 _ (Nat.lt_succ_self _))
            have HR7 := Lib.hid HP7.out.y
            have v2 : (wq.alloc (.cells #[.int .u8 ((uAt dat j).toNat : Int)] 5)).cell? ⟨wo.heap.size, 1, none⟩ = some (.slice F Y.length fcp) := HP7.out.c1
            clear HC2 HC hdb
            go_region_law (refine step_own1 rfl _ _ 31 rfl wo.heap.size 5 jv _ 1 1 Try.underlying31 JV.out ZJ.out SJ.out BJ.out rfl (by decide) F Y.length fcp (bc Y) (by simp [Act.eval]) HR7.out (wq.heap.size + 1) (some ⟨wq.heap.size, 0, none⟩) 1 1 (bc [uAt dat j]) (by simp [Act.eval]) HL7.out (bc_one _) (by unfold maxLen; omega) (by omega) HP7.out.bl.size ?_; intro A9 c9 w9 ho9 hb9 hg9; obtain ⟨hp9, t9, f9⟩ := HP7.out.put (ys := [uAt dat j]) rfl ho9 hb9 hg9; have HP9 := Lib.hid hp9)
            all_goals
              clear hp9 v2 x1 e0 e1 e2 ho9 hb9 hg9 t9 f9 HR7 HL7
              go_wp2_with fail
              go_roundw
              case rel => exact ⟨j + 1, A9, c9, by go_num, by omega, by rw [HT.out]; exact HP9⟩
              case measure => simp [intOf]; omega
          · by_cases g2 : i < l.length
            · obtain ⟨ak, rfl, hak, ek⟩ := (HK.out.below (HWB.out _ HC.out.bl)).vs i g2
              have g2i : (i : Int) < (l.length : Int) := by omega
              have HKI := Lib.hid (show l[i]?.getD 0 = iAt l i by unfold iAt; rw [List.getD_eq_getElem?_getD])
              rw [HKI.out] at HIF
              clear HKI
              by_cases g3 : (j : Int) - sf < iAt l i
              · have YQ := Lib.hid (HIF.out.2 (.inr g3))
                go_upto_region 10 with fail
                go_quiet (fail)
                have HC2 := Lib.hid (HC.out.next (below_to_drewN (Below.refl _ wr) nq))
                generalize wr.drewN nq = wq at HC2 ⊢
                go_upto_region 11 with fail
                clear e0 e1 e2 x0 x1 x2
                obtain ⟨db, rfl, hdb, eb⟩ := (HED.out.1.below (HWB.out _ HC2.out.bl)).ub j hlj
                obtain ⟨e0, e1, e2⟩ := HCE.out _ (HWB.out _ HC2.out.bl)
                have x1 := HC2.out.c1
                have HT := Lib.hid (take_min_yes hlj YQ.out)
                have hY : (dat.take (min j q)).length ≤ 20000 := by rw [List.length_take]; omega
                generalize dat.take (min j q) = Y at *
                have HP7 := Lib.hid ((HC2.out.next (below_alloc wq (.cells #[.int .u8 ((uAt dat j).toNat : Int)] 5))).next (Below.refl _ (wq.alloc (.cells #[.int .u8 ((uAt dat j).toNat : Int)] 5))).drew)
                have HL7 := Lib.hid (show Lies (wq.alloc (.cells #[.int .u8 ((uAt dat j).toNat : Int)] 5)).drew (wq.heap.size + 1) 1 (some ⟨wq.heap.size, 0, none⟩) 1 (bc [uAt dat j]) from lies_new wq _ 5 _ (Nat.lt_succ_self _))
                have HR7 := Lib.hid HP7.out.y
                have v2 : (wq.alloc (.cells #[.int .u8 ((uAt dat j).toNat : Int)] 5)).cell? ⟨wo.heap.size, 1, none⟩ = some (.slice F Y.length fcp) := HP7.out.c1
                clear HC2 HC hdb
                go_region_law (refine step_own1 rfl _ _ 31 rfl wo.heap.size 5 jv _ 1 1 Try.underlying31 JV.out ZJ.out SJ.out BJ.out rfl (by decide) F Y.length fcp (bc Y) (by simp [Act.eval]) HR7.out (wq.heap.size + 1) (some ⟨wq.heap.size, 0, none⟩) 1 1 (bc [uAt dat j]) (by simp [Act.eval]) HL7.out (bc_one _) (by unfold maxLen; omega) (by omega) HP7.out.bl.size ?_; intro A9 c9 w9 ho9 hb9 hg9; obtain ⟨hp9, t9, f9⟩ := HP7.out.put (ys := [uAt dat j]) rfl ho9 hb9 hg9; have HP9 := Lib.hid hp9)
                all_goals
                  clear hp9 v2 x1 e0 e1 e2 ho9 hb9 hg9 t9 f9 HR7 HL7
                  go_wp2_with fail
                  go_roundw
                  case rel => exact ⟨j + 1, A9, c9, by go_num, by omega, by rw [HT.out]; exact HP9⟩
                  case measure => simp [intOf]; omega
              · have NQ := Lib.hid (fun h => (HIF.out.1 h).elim g1 g3)
                have g3i := decide_eq_false g3
                clear g3
                go_upto_region 10 with fail
                go_quiet (fail)
                have HT := Lib.hid (take_min_no (l := dat) NQ.out)
                have HC2 := Lib.hid (HC.out.next (below_to_drewN (Below.refl _ wr) nq))
                go_wp2_with fail
                go_roundw
                case rel => exact ⟨j + 1, F, fcp, by go_num, by omega, by rw [HT.out]; exact HC2⟩
                case measure => simp [intOf]; omega
            · have g2i : ¬ (i : Int) < (l.length : Int) := by omega
              have g2d := decide_eq_false g2i
              have HKI := Lib.hid (show l[i]?.getD 0 = 0 by rw [List.getElem?_eq_none (by omega)]; rfl)
              rw [HKI.out] at HIF
              have NQ := Lib.hid (fun h => (HIF.out.1 h).elim g1 (fun g => by omega))
              go_upto_region 10 with fail
              go_quiet (fail)
              have HT := Lib.hid (take_min_no (l := dat) NQ.out)
              have HC2 := Lib.hid (HC.out.next (below_to_drewN (Below.refl _ wr) nq))
              go_wp2_with fail
              go_roundw
              case rel => exact ⟨j + 1, F, fcp, by go_num, by omega, by rw [HT.out]; exact HC2⟩
              case measure => simp [intOf]; omega
        · have hj' : j = dat.length := by omega
          subst hj'
          have HY := Lib.hid (show dat.take (min dat.length q) = dat.take q by rw [Nat.min_eq_right HLL.out])
          have HYL := Lib.hid (show (dat.take q).length = q by rw [List.length_take, Nat.min_eq_left HLL.out])
          rw [HY.out] at HC x1
          have x3 := HC.out.fz 2
          generalize dat.take q = Y at HC x1 HYL HCR
          have HNE := Lib.hid (show xs (X ++ [(⟨nm, Y, (Y.length : Nat), F, fcp⟩ : Fe)]) = (crash (xs ls) l).take (i + 1) by rw [xs_app, HP.out, HD.out, HCR.out, ← HYL.out]; rfl)
          have hY2 : Y.length ≤ 20000 := by have := HYL.out; have := HLL.out; omega
          go_upto_region 13 with fail
          have HC9 := Lib.hid (HC.out.last (Y.length : Int))
          generalize wr.setCell ⟨wo.heap.size, 2, none⟩ (.int .i64 (Y.length : Int)) = w3 at HC9 ⊢
          have HO3 := Lib.hid (HO.out.next HC9.out.bl)
          clear x0 x1 x2 x3 e0 e1 e2
          have x0 := HC9.out.c0
          have x1 := HC9.out.c1
          have x2 := HC9.out.c2
          have HOA := Lib.hid (HO3.out.next (below_alloc w3 (.cells #[.string nm, .slice F Y.length fcp, .int .i64 (Y.length : Int)] 50)))
          have HYA := Lib.hid ((own_next HC9.out.y (below_alloc w3 (.cells #[.string nm, .slice F Y.length fcp, .int .i64 (Y.length : Int)] 50))).lower (base' := w1.heap.size) HO.out.bl.size)
          have HLA := Lib.hid (lies_cells w3 (fc [⟨nm, Y, (Y.length : Nat), F, fcp⟩]) 50 1 3 rfl)
          go_wp2_with (at_builtin; go_must (refine wpList_app2 _ rfl (.tmp 77) (.tmp 79) 28 rfl w1.heap.size 50 iv _ 3 48 Try.underlying28 IV.out ZV.out SV.out BV.out rfl (by decide) D X.length d' (fc X) rfl HOA.out.ow (w3.heap.size + 1) (some ⟨w3.heap.size, 0, none⟩) 1 1 (fc [⟨nm, Y, (Y.length : Nat), F, fcp⟩]) rfl HLA.out (fc_one _) (X.length + 1) (fc X ++ fc [⟨nm, Y, (Y.length : Nat), F, fcp⟩]) rfl rfl (by unfold maxLen; omega) (by omega) HOA.out.bl.size ?_))
          intro A9 c9 w9 ho9 hb9 hg9
          have HF9 := Lib.hid (HOA.out.snoc rfl ho9 hb9 hg9 HYA.out)
          clear ho9 hb9 hg9 x0 x1 x2
          go_wp2_with fail
          go_roundw
          case rel => exact ⟨i + 1, A9, c9, _, by go_num, by rw [snoc_len], by omega, by rw [snoc_len, HXI.out], HNE, HF9⟩
          case measure => simp [intOf]; omega
    · have hk' : i = ls.length := by omega
      subst hk'
      have HQ := Lib.hid (show xs X = crash d l by rw [HP.out, HX.out, List.take_of_length_le (by rw [crash_len, ← HX.out, xs_len]; exact Nat.le_refl _)])
      go_wp2_with fail
      go_ret
      exact ⟨below_then HB.out HO.out.bl, D, d', X, rfl, HO.out.ls, HQ.out⟩
end Go.Proofs.Ytdpmlpclhojcjaa
