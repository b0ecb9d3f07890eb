import Derived.Test.YtdpmlpclhojcjaaEe
import Derived.Lib.MinMax
/-
  A list of files of the call's own, whose bytes lie in memory; the contracts of the program's beginning and Crash. No condition but that there are not too many files, bytes and numbers.
-/
namespace Go.Proofs.Ytdpmlpclhojcjaa
open Go.ChangeShapes Go.WideShapes Go.ChangeAt Go.RowKit
set_option linter.unusedVariables false

/-- A file's bytes lie in memory, in a row of bytes. -/
structure Dt (W : World) (e : Fe) : Prop where
  L : Lies W W.heap.size 1 e.A e.dat.length (bc e.dat)
  c : e.dat.length ≤ e.c
  h : ∀ p, e.A = some p → ∃ cs fr, W.heap[p.block]? = some (.cells cs 5 fr)
theorem Dt.next {W W' : World} {e : Fe} (h : Dt W e) (hb : Below W.heap.size W W') : Dt W' e :=
  ⟨h.L.next hb, h.c, fun p hp => by
    obtain ⟨cs, fr, hh⟩ := h.h p hp
    exact ⟨cs, fr, (hb.block _ (lt_of_block hh)).trans hh⟩⟩
theorem Dt.own {W : World} {base : Nat} {e : Fe} (h : OwnB base e.A e.c e.dat W) : Dt W e :=
  ⟨Lies.of_own h, own_cap h, fun p hp => by
    rcases h.2 with ⟨hv, _⟩ | ⟨g, cap, cur, hv, _, hg, _⟩
    · injection hv with e1 _ _; rw [e1] at hp; cases hp
    · injection hv with e1 _ _; rw [e1] at hp; injection hp with hp; subst hp; exact ⟨cur, _, hg⟩⟩
theorem Dt.set {W : World} {e : Fe} (h : Dt W e) {b i : Nat} {cs : Array Value} {T : TypeId} {fr : Nat × Nat} (hb : W.heap[b]? = some (.cells cs T fr)) (hT : T ≠ 5) (v : Value) : Dt (W.setCell ⟨b, i, none⟩ v) e := by
  have hne : ∀ p, e.A = some p → p.block ≠ b := fun p hp hpb => by
    obtain ⟨cs', fr', hh⟩ := h.h p hp
    rw [hpb, hb] at hh
    injection hh with hh
    injection hh with _ h2
    exact hT h2
  refine ⟨⟨h.L.1, fun j u hu => ?_⟩, h.c, fun p hp => ?_⟩
  · obtain ⟨ad, ea, hl, hc⟩ := h.L.2 j u hu
    exact ⟨ad, ea, by rw [size_set]; exact hl, cell_set (by rw [block_add]; exact hne ad ea) hc⟩
  · obtain ⟨cs', fr', hh⟩ := h.h p hp
    exact ⟨cs', fr', (Below.heap_setCell _ _ _ _ (hne p hp)).trans hh⟩
theorem Dt.cut {W : World} {nm : ByteArray} {dat : List UInt8} {sf : Int} {A : Option Addr} {c : Nat} (h : Dt W ⟨nm, dat, sf, A, c⟩) (k : Nat) (hk : k ≤ dat.length) (x : Int) : Dt W ⟨nm, dat.take k, x, A, k⟩ := by
  have hl : (dat.take k).length = k := by rw [List.length_take]; omega
  refine ⟨⟨by rw [bc_length, hl, Nat.mul_one], fun j u hu => ?_⟩, by show (dat.take k).length ≤ k; omega, h.h⟩
  have hj : j < k := by have := (List.getElem?_eq_some_iff.1 hu).1; rw [bc_length] at this; show j < k; rw [← hl]; exact this
  refine h.L.2 j u ?_
  rw [← bc_take, List.getElem?_take_of_lt hj] at hu
  exact hu
theorem Dt.fd {W : World} {e : Fe} (h : Dt W e) : Fd W W.heap.size e := ⟨h.L, h.c⟩
/-- A disk's list of files of the call's own. -/
structure Of (base : Nat) (D : Option Addr) (d : Nat) (X : List Fe) (W : World) : Prop where
  ow : W.ownsRow base 53 3 (.slice D X.length d) X.length (fc X)
  el : ∀ e ∈ X, Dt W e
theorem Oz.of {base : Nat} {W : World} {D : Option Addr} {d : Nat} {X : List Fe} (h : Oz base D d X W) : Of base D d X W := ⟨h.ow, fun e he => Dt.own (h.el e he)⟩
theorem Of.next {base : Nat} {W W' : World} {D : Option Addr} {d : Nat} {X : List Fe} (h : Of base D d X W) (hb : Below W.heap.size W W') : Of base D d X W' :=
  ⟨own_next h.ow hb, fun e he => (h.el e he).next hb⟩
theorem Of.box {base b i : Nat} {W : World} {D : Option Addr} {d : Nat} {X : List Fe} {cs : Array Value} {fr : Nat × Nat} (h : Of base D d X W) (hb : W.heap[b]? = some (.cells cs 24 fr)) (v : Value) : Of base D d X (W.setCell ⟨b, i, none⟩ v) :=
  ⟨ownsRow_setCell_other h.ow (a := ⟨b, i, none⟩) (own_ne h.ow hb (by decide)) v, fun e he => (h.el e he).set hb (by decide) v⟩
theorem Of.ls {base : Nat} {W : World} {D : Option Addr} {d : Nat} {X : List Fe} (h : Of base D d X W) : Fls W W.heap.size D d X :=
  ⟨Lies.of_own h.ow, own_cap h.ow, fun e he => (h.el e he).fd⟩
/-- What is asked for a cell's writing: the row's place. -/
theorem Of.at {base : Nat} {W : World} {D : Option Addr} {d : Nat} {X : List Fe} (h : Of base D d X W) {k : Nat} (hk : k < X.length) :
    ∃ ad, D = some ad ∧ base ≤ ad.block ∧ ad.block < W.heap.size ∧ (∀ j, ad.add j = ⟨ad.block, j, none⟩) ∧ W.cell? ⟨ad.block, k * 3, none⟩ = some (.string (fAt X k).nm) ∧ W.cell? ⟨ad.block, k * 3 + 1, none⟩ = some (.slice (fAt X k).A (fAt X k).dat.length (fAt X k).c) ∧ W.cell? ⟨ad.block, k * 3 + 2, none⟩ = some (.int .i64 (fAt X k).safe) ∧ ∀ j, W.frozen? ⟨ad.block, j, none⟩ = false := by
  obtain ⟨ad, cur, e1, e2, hb, hg⟩ := own_at h.ow (by omega)
  obtain ⟨ad', e, _, c0, c1, c2⟩ := (Lies.of_own h.ow).fe k hk
  rw [e1] at e
  injection e with e
  subst e
  rw [add_at ad e2] at c0 c1 c2
  exact ⟨ad, e1, hb, lt_of_block hg, add_at ad e2, c0, c1, c2, fun j => unfrozen hg j⟩
theorem Of.put3 {base : Nat} {W : World} {ad : Addr} {d : Nat} {X : List Fe} (h : Of base (some ad) d X W) {k : Nat} (hk : k < X.length) {e : Fe} (he : Dt W e) {n : Nat} (hn : e.dat.length = n) :
    Of base (some ad) d (X.set k e) (((W.setCell ⟨ad.block, k * 3, none⟩ (.string e.nm)).setCell ⟨ad.block, k * 3 + 1, none⟩ (.slice e.A n e.c)).setCell ⟨ad.block, k * 3 + 2, none⟩ (.int .i64 e.safe)) := by
  subst hn
  obtain ⟨ad', cur, e1, e2, hb, hg⟩ := own_at h.ow (by omega)
  injection e1 with e1
  subst e1
  have g1 := set_heap (i := k * 3) hg (.string e.nm)
  have g2 := set_heap (i := k * 3 + 1) g1 (.slice e.A e.dat.length e.c)
  have hd : ∀ x, Dt W x → Dt (((W.setCell ⟨ad.block, k * 3, none⟩ (.string e.nm)).setCell ⟨ad.block, k * 3 + 1, none⟩ (.slice e.A e.dat.length e.c)).setCell ⟨ad.block, k * 3 + 2, none⟩ (.int .i64 e.safe)) x :=
    fun x hx => ((hx.set hg (by decide) _).set g1 (by decide) _).set g2 (by decide) _
  refine ⟨?_, fun x hx => ?_⟩
  · rw [← fc_set, List.length_set]
    have o1 := own_put h.ow (k * 3) (by omega) (.string e.nm)
    have o2 := own_put o1 (k * 3 + 1) (by omega) (.slice e.A e.dat.length e.c)
    exact own_put o2 (k * 3 + 2) (by omega) (.int .i64 e.safe)
  · rcases List.mem_or_eq_of_mem_set hx with hx | rfl
    · exact hd x (h.el x hx)
    · exact hd x he
theorem xs_set (X : List Fe) (k : Nat) (e : Fe) : xs (X.set k e) = (xs X).set k e.x := by unfold xs; rw [List.map_set]
theorem Bb.nextB {w W W' : World} {v r : Value} (h : Bb w v r W) {B : Nat} (hB : w.heap.size + 2 ≤ B) (hb : Below B W W') : Bb w v r W' :=
  ⟨Nat.le_trans h.z hb.size, (hb.block _ (by omega)).trans h.h0, (hb.block _ (by omega)).trans h.h1, h.bl.trans (hb.mono (by omega))⟩
theorem cut_hm (A : Option Addr) (n c : Nat) (k : Nat) (hk : k ≤ c) (W : World) : (Instr.slice 31 (.slice A n c) none (some (.int .i64 k)) (some (.int .i64 k))).run Try.prog W = .ok (.slice A k k) W := by
  rw [run_slice_hm W 31 A n c Try.under31 .i64 .i64 k k (by omega) (by omega) (by omega)]
  have hm : A.map (fun x => x.add 0) = A := by cases A <;> simp [add_zero]
  simp [Try.size31, sliced, Result.andThen, hm]
set_option maxHeartbeats 1000000 in
set_option maxRecDepth 20000 in
theorem beg_any (nm : ByteArray) (dat : List UInt8) (sf : Int) (A : Option Addr) (c k : Nat) (w : World) (hk : k ≤ dat.length) (hc : dat.length ≤ c) (hd : dat.length ≤ 100000) :
    Calls Try.prog 38 #[.agg #[.string nm, .slice A dat.length c, .int .i64 sf], .int .i64 k] w fun e w' => e = .returned (.agg #[.string nm, .slice A k k, .int .i64 k]) ∧ Below w.heap.size w w' := by
  have hcut := cut_hm A dat.length c k (Nat.le_trans hk hc)
  have HB := Lib.hid (show Below w.heap.size w ((w.alloc (.cells #[.string nm, .slice A dat.length c, .int .i64 sf] 53)).alloc (.cells #[.string ⟨#[]⟩, .slice none 0 0, .int .i64 0] 53)) from ((Below.refl _ w).alloc (Nat.le_refl _) _).alloc (by simp) _)
  have h0 : ((w.alloc (.cells #[.string nm, .slice A dat.length c, .int .i64 sf] 53)).alloc (.cells #[.string ⟨#[]⟩, .slice none 0 0, .int .i64 0] 53)).heap[w.heap.size]? = some (.cells #[.string nm, .slice A dat.length c, .int .i64 sf] 53 (0, 0)) :=
    (Below.heap_alloc _ _ _ (by simp)).trans (heap_alloc_new w _)
  have h1 : ((w.alloc (.cells #[.string nm, .slice A dat.length c, .int .i64 sf] 53)).alloc (.cells #[.string ⟨#[]⟩, .slice none 0 0, .int .i64 0] 53)).heap[w.heap.size + 1]? = some (.cells #[.string ⟨#[]⟩, .slice none 0 0, .int .i64 0] 53 (0, 0)) := by
    have := heap_alloc_new (w.alloc (.cells #[.string nm, .slice A dat.length c, .int .i64 sf] 53)) (.cells #[.string ⟨#[]⟩, .slice none 0 0, .int .i64 0] 53)
    rwa [World.size_alloc] at this
  go_enter Try.func38, Try.ntmps38
  go_upto_region 1 with fail
  generalize (w.alloc (.cells #[.string nm, .slice A dat.length c, .int .i64 sf] 53)).alloc (.cells #[.string ⟨#[]⟩, .slice none 0 0, .int .i64 0] 53) = w2 at HB h0 h1 ⊢
  have d0 : w2.cell? ⟨w.heap.size, 0, none⟩ = some (.string nm) := cell_of_row w2 _ 0 _ 53 (0, 0) h0
  have d1 : w2.cell? ⟨w.heap.size, 1, none⟩ = some (.slice A dat.length c) := cell_of_row w2 _ 1 _ 53 (0, 0) h0
  have r0 : w2.cell? ⟨w.heap.size + 1, 0, none⟩ = some (.string ⟨#[]⟩) := cell_of_row w2 _ 0 _ 53 (0, 0) h1
  have r1 : w2.cell? ⟨w.heap.size + 1, 1, none⟩ = some (.slice none 0 0) := cell_of_row w2 _ 1 _ 53 (0, 0) h1
  have r2 : w2.cell? ⟨w.heap.size + 1, 2, none⟩ = some (.int .i64 0) := cell_of_row w2 _ 2 _ 53 (0, 0) h1
  have f0 := unfrozen h1 0
  have f1 := unfrozen h1 1
  have f2 := unfrozen h1 2
  clear h0 h1
  go_region
  all_goals
    go_wp2_with fail
    refine bodyPost_ret (v := .agg #[.string nm, .slice A k k, .int .i64 k]) (by simp [results, Try.results38, go_sem, r0, r1, r2]) rfl ?_
    exact ⟨rfl, ((below_to_drewN HB.out 1).setCell (p := ⟨w.heap.size + 1, 0, none⟩) (Nat.le_succ _) _).setCell (p := ⟨w.heap.size + 1, 1, none⟩) (Nat.le_succ _) _ |>.setCell (p := ⟨w.heap.size + 1, 2, none⟩) (Nat.le_succ _) _⟩
theorem cr_step {d : List Fl} {l : List Int} {k : Nat} {f g : Fl} (h : d[k]? = some f) (hg : g = crF f (l[k]?.getD 0)) : ((crash d l).take k ++ d.drop k).set k g = (crash d l).take (k + 1) ++ d.drop (k + 1) := by
  obtain ⟨hk, hf⟩ := List.getElem?_eq_some_iff.1 h
  have hl : ((crash d l).take k).length = k := by rw [List.length_take, crash_len]; omega
  rw [crash_next h, hg, List.set_append, if_neg (by omega), hl, Nat.sub_self, List.drop_eq_getElem_cons hk, List.set_cons_zero, List.append_assoc]
  rfl
theorem cr_at {d : List Fl} {l : List Int} {k : Nat} (hk : k ≤ d.length) : ((crash d l).take k ++ d.drop k)[k]? = d[k]? := by
  have hl : ((crash d l).take k).length = k := by rw [List.length_take, crash_len]; omega
  rw [List.getElem?_append_right (by omega), hl, Nat.sub_self, List.getElem?_drop]
  rfl
def KrRel (t : List Fl) (l : List Int) (w4 : World) (B : Nat) (D : Option Addr) (d n : Nat) (i : Value) (W : World) : Prop := ∃ (k : Nat) (X : List Fe), i = .int .i64 k ∧ k ≤ n ∧ Hid (X.length = n) ∧ Hid (xs X = (crash t l).take k ++ t.drop k) ∧ Hid (Of B D d X W) ∧ Hid (Below B w4 W)
/-- The cells that the last step of a round reads and writes. -/
def Kc (b0 bf : Nat) (ad : Addr) (D : Option Addr) (n d k : Nat) (nm : ByteArray) (DA : Option Addr) (len dc : Nat) (sf : Int) (w' : World) : Prop :=
  w'.cell? ⟨b0, 0, none⟩ = some (.slice D n d) ∧ w'.cell? ⟨bf, 0, none⟩ = some (.string nm) ∧ w'.cell? ⟨bf, 1, none⟩ = some (.slice DA len dc) ∧ w'.cell? ⟨bf, 2, none⟩ = some (.int .i64 sf) ∧
  w'.cell? ⟨ad.block, k * 3, none⟩ = some (.string nm) ∧ w'.cell? ⟨ad.block, k * 3 + 1, none⟩ = some (.slice DA len dc) ∧ w'.cell? ⟨ad.block, k * 3 + 2, none⟩ = some (.int .i64 sf) ∧ w'.frozen? ⟨ad.block, k * 3, none⟩ = false ∧ w'.frozen? ⟨ad.block, k * 3 + 1, none⟩ = false ∧ w'.frozen? ⟨ad.block, k * 3 + 2, none⟩ = false
theorem fz_next {W W' : World} {b j : Nat} (h : W.frozen? ⟨b, j, none⟩ = false) (hb : Below W.heap.size W W') (hl : b < W.heap.size) : W'.frozen? ⟨b, j, none⟩ = false := by
  rw [← h]
  unfold World.frozen?
  rw [show W'.heap[b]? = W.heap[b]? from hb.block b hl]
theorem kc_next {b0 bf : Nat} {ad : Addr} {D : Option Addr} {n d k : Nat} {nm : ByteArray} {DA : Option Addr} {len dc : Nat} {sf : Int} {w w' : World} (hb : Below w.heap.size w w') (h0 : b0 < w.heap.size) (h1 : bf < w.heap.size) (h2 : ad.block < w.heap.size) (h : Kc b0 bf ad D n d k nm DA len dc sf w) : Kc b0 bf ad D n d k nm DA len dc sf w' := by
  obtain ⟨a1, a2, a3, a4, a5, a6, a7, a8, a9, a10⟩ := h
  exact ⟨(hb.cell (p := ⟨b0, 0, none⟩) h0).trans a1, (hb.cell (p := ⟨bf, 0, none⟩) h1).trans a2, (hb.cell (p := ⟨bf, 1, none⟩) h1).trans a3, (hb.cell (p := ⟨bf, 2, none⟩) h1).trans a4, (hb.cell (p := ⟨ad.block, k * 3, none⟩) h2).trans a5, (hb.cell (p := ⟨ad.block, k * 3 + 1, none⟩) h2).trans a6, (hb.cell (p := ⟨ad.block, k * 3 + 2, none⟩) h2).trans a7, fz_next a8 hb h2, fz_next a9 hb h2, fz_next a10 hb h2⟩
set_option maxHeartbeats 8000000 in
set_option maxRecDepth 20000 in
theorem pcrash_any (A : Option Addr) (c : Nat) (ls : List Fe) (w : World) (hA : Fls w w.heap.size A c ls) (hm : Mod ls) (KA : Option Addr) (kc : Nat) (l : List Int) (hK : Lies w w.heap.size 1 KA l.length (vc l)) (hl : l.length ≤ 100000) (hb : ∀ x ∈ l, -9223372036854775808 ≤ x ∧ x ≤ 9223372036854775807) :
    Calls Try.prog 23 #[.agg #[.slice A ls.length c], .slice KA l.length kc] w (DkPost (crash (goodOf (xs ls)) l) w) := by
  have HI := Lib.hid (Bb.init w (.slice A ls.length c) (.slice none 0 0))
  have CG := Lib.hid (own_any A c ls _ (hA.next HI.out.bl) hm)
  have HG := Lib.hid (goodOf_good (xs ls))
  have HK := Lib.hid hK
  have HIB := Lib.hid hb
  have d0 := HI.out.c0
  generalize goodOf (xs ls) = t at *
  clear hA hm hK hb
  go_enter Try.func23, Try.ntmps23
  go_upto_region 1 with fail
  generalize (w.alloc (.cells #[.slice A ls.length c] 24)).alloc (.cells #[.slice none 0 0] 24) = w2 at HI CG d0 ⊢
  go_wp2_with fail
  refine CG.out.mono ?_
  rintro e w3 ⟨hb3, D, d, X0, rfl, hZ, hx3⟩
  have HX := Lib.hid hx3
  have HI3 := Lib.hid (HI.out.next hb3)
  have HZ2 := Lib.hid HI.out.z
  have HN := Lib.hid (show X0.length ≤ 40 by have := HG.out.len; rw [← hx3, xs_len] at this; exact this)
  have HTL := Lib.hid (show t.length = X0.length by rw [← hx3, xs_len])
  have z1 := HI3.out.c0
  have zf := HI3.out.f0
  have HI4 := Lib.hid (HI3.out.setV (.slice D X0.length d))
  have HO4 := Lib.hid (show Of w2.heap.size D d X0 (w3.setCell ⟨w.heap.size, 0, none⟩ (.slice D X0.length d)) from (hZ.setLow (by have := HZ2.out; omega) _).of)
  have HS4 := Lib.hid (show w2.heap.size ≤ (w3.setCell ⟨w.heap.size, 0, none⟩ (.slice D X0.length d)).heap.size by rw [size_set]; exact hb3.size)
  generalize hn : X0.length = n at *
  clear hb3 hZ hx3 d0 CG HI
  go_upto_region 2 with fail
  generalize w3.setCell ⟨w.heap.size, 0, none⟩ (.slice D n d) = w4 at HI4 HO4 HS4 ⊢
  clear z1 zf HI3
  have d0 := HI4.out.c0
  have hn40 : n ≤ 40 := HN.out
  have HNX := Lib.hid hn
  clear hn
  go_wp2_with fail
  go_loopw [13] (fun i W => KrRel t l w4 w2.heap.size D d n i W) (fun i W => n - (intOf i).toNat)
  case atStart => exact ⟨0, X0, rfl, Nat.zero_le _, HNX, Lib.hid (by rw [HX.out]; rfl), HO4, Lib.hid (Below.refl _ _)⟩
  case round =>
    obtain ⟨k, X, rfl, hk, HXL, HP, HO, HB⟩ := hrel
    have HI5 := Lib.hid (HI4.out.nextB HZ2.out HB.out)
    clear d0
    have d0 := HI5.out.c0
    by_cases hlt : k < n
    · have hkl : (k : Int) < (n : Int) := by omega
      have hkX : k < X.length := by rw [HXL.out]; exact hlt
      have HTK := Lib.hid (show t[k]? = some (fAt X k).x by rw [← cr_at (l := l) (show k ≤ t.length by rw [HTL.out]; exact hk), ← HP.out]; exact xs_at X k hkX)
      have HOK := Lib.hid (show okF (fAt X k).x from HG.out.ok _ (List.mem_of_getElem? HTK.out))
      obtain ⟨ad, rfl, hadb, hadl, hadd, e0, e1, e2, ef⟩ := HO.out.at hkX
      have HDT := Lib.hid (HO.out.el _ (fAt_mem X k hkX))
      have HKX := Lib.hid hkX
      generalize fAt X k = m at *
      obtain ⟨nm, dat, sf, DA, dc⟩ := m
      simp only at e0 e1 e2
      have hd20 : dat.length ≤ 20000 := HOK.out.2.2.1
      have hs0 : 0 ≤ sf := HOK.out.2.2.2.1
      have hs1 : sf ≤ (dat.length : Int) := HOK.out.2.2.2.2
      have HDC := Lib.hid (show dat.length ≤ dc from HDT.out.c)
      have hadk := hadd (k * 3)
      have HAK := Lib.hid hadk
      have HB5 := Lib.hid (below_alloc wr (.cells #[.string nm, .slice DA dat.length dc, .int .i64 sf] 53))
      have f0 : (wr.alloc (.cells #[.string nm, .slice DA dat.length dc, .int .i64 sf] 53)).cell? ⟨wr.heap.size, 0, none⟩ = some (.string nm) := by simp [go_sem]
      have f1 : (wr.alloc (.cells #[.string nm, .slice DA dat.length dc, .int .i64 sf] 53)).cell? ⟨wr.heap.size, 1, none⟩ = some (.slice DA dat.length dc) := by simp [go_sem]
      have f2 : (wr.alloc (.cells #[.string nm, .slice DA dat.length dc, .int .i64 sf] 53)).cell? ⟨wr.heap.size, 2, none⟩ = some (.int .i64 sf) := by simp [go_sem]
      have HSZ := Lib.hid (show wr.heap.size < (wr.alloc (.cells #[.string nm, .slice DA dat.length dc, .int .i64 sf] 53)).heap.size by simp)
      have HW5 := Lib.hid (HB.out.trans (HB5.out.mono (by have := HS4.out; have := HB.out.size; omega)))
      have HO5 := Lib.hid (HO.out.next HB5.out)
      have HI6 := Lib.hid (HI5.out.next HB5.out)
      have HDT5 := Lib.hid (HDT.out.next HB5.out)
      have ef5 : ∀ j, (wr.alloc (.cells #[.string nm, .slice DA dat.length dc, .int .i64 sf] 53)).frozen? ⟨ad.block, j, none⟩ = false := (HO5.out.at (by rw [HXL.out]; exact hlt)).elim fun ad' h => by
        obtain ⟨e, _, _, _, _, _, _, h⟩ := h
        injection e with e
        subst e
        exact h
      have g0 := (HB5.out.cell (p := ⟨ad.block, k * 3, none⟩) hadl).trans e0
      have g1 := (HB5.out.cell (p := ⟨ad.block, k * 3 + 1, none⟩) hadl).trans e1
      have g2 := (HB5.out.cell (p := ⟨ad.block, k * 3 + 2, none⟩) hadl).trans e2
      have HLTS := Lib.hid (show w.heap.size < (wr.alloc (.cells #[.string nm, .slice DA dat.length dc, .int .i64 sf] 53)).heap.size ∧ wr.heap.size < (wr.alloc (.cells #[.string nm, .slice DA dat.length dc, .int .i64 sf] 53)).heap.size ∧ ad.block < (wr.alloc (.cells #[.string nm, .slice DA dat.length dc, .int .i64 sf] 53)).heap.size from ⟨by have := HI6.out.z; omega, HSZ.out, by have := HSZ.out; omega⟩)
      have d5 := HI6.out.c0
      clear ef
      go_upto_region 5 with fail
      clear e0 e1 e2 d0
      generalize wr.alloc (.cells #[.string nm, .slice DA dat.length dc, .int .i64 sf] 53) = w5 at HB5 f0 f1 f2 HSZ HW5 HO5 HI6 HDT5 ef5 g0 g1 g2 HLTS d5 ⊢
      generalize wr.heap.size = bf at *
      go_upto_region 6 with fail
      by_cases hkl2 : k < l.length
      · have hkl2i : (k : Int) < (l.length : Int) := by omega
        have HLK := Lib.hid (show l[k]?.getD 0 = iAt l k by unfold iAt; rw [List.getD_eq_getElem?_getD])
        obtain ⟨ak, hka, hak, ek⟩ := (HK.out.below HI6.out.bl).vs k hkl2
        have hbk := HIB.out _ (iAt_mem l k hkl2)
        have HLF := Lib.hid (show ∀ z, z = min (max (iAt l k) 0) ((dat.length : Int) - sf) → ∃ kk : Nat, sf + z = (kk : Int) ∧ kk ≤ dat.length ∧ kk = left (Fe.x ⟨nm, dat, sf, DA, dc⟩) (l[k]?.getD 0) from fun z hz => ⟨left (Fe.x ⟨nm, dat, sf, DA, dc⟩) (l[k]?.getD 0), by unfold left; simp only [Fe.x]; rw [HLK.out]; omega, by unfold left; simp only [Fe.x]; omega, rfl⟩)
        subst hka
        obtain ⟨z0, hz0⟩ : ∃ z0, max (iAt l k) 0 = z0 := ⟨_, rfl⟩
        obtain ⟨z1, hz1⟩ : ∃ z1, min z0 ((dat.length : Int) - sf) = z1 := ⟨_, rfl⟩
        obtain ⟨kk, hk1, hk2, hk3⟩ := HLF.out z1 (by rw [hz0, hz1])
        have HKK := Lib.hid hk3
        have BG := Lib.hid (fun W => beg_any nm dat sf DA dc kk W hk2 HDC.out (by omega))
        have hw1 : IntKind.i64.wrap (kk : Int) = (kk : Int) := by rw [IntKind.wrap_i64]; omega
        clear hk3 HLF
        go_upto_region 7 with fail
        go_quiet (fail)
        have HW6 := Lib.hid (below_to_drewN HW5.out nq)
        have HO6 := Lib.hid (show Of w2.heap.size (some ad) d X (w5.drewN nq) from HO5.out.next (below_to_drewN (Below.refl _ _) nq))
        have HI7 := Lib.hid (HI6.out.next (below_to_drewN (Below.refl _ _) nq))
        have HDT6 := Lib.hid (show Dt (w5.drewN nq) ⟨nm, dat, sf, DA, dc⟩ from HDT5.out.next (below_to_drewN (Below.refl _ _) nq))
        have HLTS := Lib.hid (show w.heap.size < (w5.drewN nq).heap.size ∧ bf < (w5.drewN nq).heap.size ∧ ad.block < (w5.drewN nq).heap.size from HLTS.out)
        change (w5.drewN nq).cell? _ = _ at d5 f0 f1 f2 g0 g1 g2
        have ef5 : ∀ j, (w5.drewN nq).frozen? ⟨ad.block, j, none⟩ = false := ef5
        clear ek
        generalize w5.drewN nq = w6 at *
        go_wp2_with fail
        have HKC := Lib.hid (show Kc w.heap.size bf ad (some ad) n d k nm DA dat.length dc sf w6 from ⟨d5, f0, f1, f2, g0, g1, g2, ef5 _, ef5 _, ef5 _⟩)
        have ef50 := ef5 (k * 3)
        have ef51 := ef5 (k * 3 + 1)
        have ef52 := ef5 (k * 3 + 2)
        clear ef5
        go_region_law (first | (go_simp; go_at_call 38; (with_reducible refine (BG.out _).mono ?_); rintro e w7 ⟨rfl, hb7⟩; obtain ⟨a1, a2, a3, a4, a5, a6, a7, a8, a9, a10⟩ := kc_next hb7 HLTS.out.1 HLTS.out.2.1 HLTS.out.2.2 HKC.out; have HB7 := Lib.hid (below_of_drew hb7); clear hb7) | fail)
        all_goals
          have HO7 := Lib.hid ((HO6.out.next HB7.out).put3 (k := k) (by rw [HXL.out]; exact hlt) (e := ⟨nm, dat.take kk, (kk : Int), DA, kk⟩) ((HDT6.out.next HB7.out).cut kk hk2 kk) (n := kk) (by show (dat.take kk).length = kk; rw [List.length_take]; omega))
          have HP7 := Lib.hid (show xs (X.set k ⟨nm, dat.take kk, (kk : Int), DA, kk⟩) = (crash t l).take (k + 1) ++ t.drop (k + 1) by rw [xs_set, HP.out]; exact cr_step HTK.out (by unfold crF; rw [← HKK.out]; rfl))
          have HW7 := Lib.hid ((((HW6.out.trans (HB7.out.mono (by have := HW6.out.size; have := HS4.out; have e9 : w6.drew.heap.size = w6.heap.size := rfl; omega))).setCell (p := ⟨ad.block, k * 3, none⟩) hadb (.string nm)).setCell (p := ⟨ad.block, k * 3 + 1, none⟩) hadb (.slice DA kk kk)).setCell (p := ⟨ad.block, k * 3 + 2, none⟩) hadb (.int .i64 (kk : Int)))
          have HX7 := Lib.hid (show (X.set k ⟨nm, dat.take kk, (kk : Int), DA, kk⟩).length = n by rw [List.length_set]; exact HXL.out)
          clear a1 a2 a3 a4 a5 a6 a7 a8 a9 a10
          go_wp2_with fail
          go_roundw
          case rel => exact ⟨k + 1, X.set k ⟨nm, dat.take kk, (kk : Int), DA, kk⟩, by go_num, by omega, HX7, HP7, HO7, HW7⟩
          case measure => simp [intOf]; omega
      · have HLK := Lib.hid (show l[k]?.getD 0 = 0 by rw [List.getElem?_eq_none (by omega)]; rfl)
        have hkl2i : ¬ (k : Int) < (l.length : Int) := by omega
        obtain ⟨kk, hsf⟩ : ∃ kk : Nat, sf = (kk : Int) := ⟨sf.toNat, by omega⟩
        subst hsf
        have hk2 : kk ≤ dat.length := by omega
        have HKK := Lib.hid (show kk = left (Fe.x ⟨nm, dat, (kk : Int), DA, dc⟩) (l[k]?.getD 0) by rw [HLK.out]; unfold left; simp only [Fe.x]; omega)
        have BG := Lib.hid (fun W => beg_any nm dat (kk : Int) DA dc kk W hk2 HDC.out (by omega))
        have hw1 : IntKind.i64.wrap (kk : Int) = (kk : Int) := by rw [IntKind.wrap_i64]; omega
        have HW6 := HW5
        have HO6 := HO5
        have HDT6 := HDT5
        clear HW5 HO5 HDT5
        generalize w5 = w6 at *
        go_wp2_with fail
        have HKC := Lib.hid (show Kc w.heap.size bf ad (some ad) n d k nm DA dat.length dc (kk : Int) w6 from ⟨d5, f0, f1, f2, g0, g1, g2, ef5 _, ef5 _, ef5 _⟩)
        have ef50 := ef5 (k * 3)
        have ef51 := ef5 (k * 3 + 1)
        have ef52 := ef5 (k * 3 + 2)
        clear ef5
        go_region_law (first | (go_simp; go_at_call 38; (with_reducible refine (BG.out _).mono ?_); rintro e w7 ⟨rfl, hb7⟩; obtain ⟨a1, a2, a3, a4, a5, a6, a7, a8, a9, a10⟩ := kc_next hb7 HLTS.out.1 HLTS.out.2.1 HLTS.out.2.2 HKC.out; have HB7 := Lib.hid (below_of_drew hb7); clear hb7) | fail)
        all_goals
          have HO7 := Lib.hid ((HO6.out.next HB7.out).put3 (k := k) (by rw [HXL.out]; exact hlt) (e := ⟨nm, dat.take kk, (kk : Int), DA, kk⟩) ((HDT6.out.next HB7.out).cut kk hk2 kk) (n := kk) (by show (dat.take kk).length = kk; rw [List.length_take]; omega))
          have HP7 := Lib.hid (show xs (X.set k ⟨nm, dat.take kk, (kk : Int), DA, kk⟩) = (crash t l).take (k + 1) ++ t.drop (k + 1) by rw [xs_set, HP.out]; exact cr_step HTK.out (by unfold crF; rw [← HKK.out]; rfl))
          have HW7 := Lib.hid ((((HW6.out.trans (HB7.out.mono (by have := HW6.out.size; have := HS4.out; have e9 : w6.drew.heap.size = w6.heap.size := rfl; omega))).setCell (p := ⟨ad.block, k * 3, none⟩) hadb (.string nm)).setCell (p := ⟨ad.block, k * 3 + 1, none⟩) hadb (.slice DA kk kk)).setCell (p := ⟨ad.block, k * 3 + 2, none⟩) hadb (.int .i64 (kk : Int)))
          have HX7 := Lib.hid (show (X.set k ⟨nm, dat.take kk, (kk : Int), DA, kk⟩).length = n by rw [List.length_set]; exact HXL.out)
          clear a1 a2 a3 a4 a5 a6 a7 a8 a9 a10
          go_wp2_with fail
          go_roundw
          case rel => exact ⟨k + 1, X.set k ⟨nm, dat.take kk, (kk : Int), DA, kk⟩, by go_num, by omega, HX7, HP7, HO7, HW7⟩
          case measure => simp [intOf]; omega
    · have hk' : k = n := by omega
      subst hk'
      have HQ := Lib.hid (show xs X = crash t l by
        rw [HP.out, List.drop_of_length_le (by rw [HTL.out]; exact Nat.le_refl _), List.append_nil, List.take_of_length_le (by rw [crash_len, HTL.out]; exact Nat.le_refl _)])
      have d1 := HI5.out.c1
      have f1 := HI5.out.f1
      go_wp2_with fail
      refine bodyPost_ret (v := .agg #[.slice D k d]) (by simp [results, Try.results23, go_sem, d1]) rfl ?_
      exact ⟨(HI5.out.setR _).bl, D, d, X, by rw [HXL.out], (HO.out.box HI5.out.h1 _).ls, HQ.out⟩
end Go.Proofs.Ytdpmlpclhojcjaa
