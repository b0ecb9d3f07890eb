import Derived.Test.YtpgdddjjjfkneaaGreatDoorLawA
import Derived.Test.YtpgdddjjjfkneaaGreatDoorSj
import Derived.Test.YtpgdddjjjfkneaaGreatDoorSk
import Derived.Test.YtpgdddjjjfkneaaGreatDoorSd
import Derived.BigRegion
import Derived.Deep.RegionLaw
import Derived.Deep.Cut
import Derived.Deep.DeepCutAuto
namespace Go.Proofs.YtpgdddjjjfkneaaGreatDoor
open Go.Sort Go.ChangeShapes Go.WideShapes Go.ChangeAt Go.RowKit
open Go.ChangeShapes Go.WideShapes Go.ChangeAt Go.RowKit
set_option linter.unusedVariables false

theorem Jn.of {N : Int} {es : List Ed} {p s l q : Int} {L : List Pt} (hj : jchk N es p s l q = 0) (h : joinB N es p s l q L = true) : Jn N.toNat q.toNat L := by
  obtain ⟨hl, hg⟩ := good_of h
  have hb := badJ_not (jchk_zero hj).2
  have hN := jchk_N hj
  have key : ∀ k, k < q.toNat → (pAt L k).P = k ∧ rightP N es p s l q (pAt L k) = true := fun k hk => by
    have := hg k (by omega)
    unfold goodB at this
    simp only [Bool.and_eq_true, decide_eq_true_eq] at this
    exact ⟨this.1, this.2.2⟩
  have hNn : ((N.toNat : Nat) : Int) = N := by omega
  refine ⟨by omega, by omega, by omega, by omega, fun k hk => ?_, fun k hk => ?_, fun k hk => ?_, fun k hk => ?_⟩
  all_goals
    obtain ⟨hP, hR⟩ := key k hk
    have := right_P hR
    rw [hP, Int.toNat_natCast] at this
  · exact this.2.2.2.1
  · exact this.2.2.2.2.1
  · rw [hNn]; exact this.2.2.2.2.2.1
  · exact this.2.2.2.2.2.2
theorem Jv.setR {n q : Nat} {f : Nat → Bool} {k i : Nat} {vs : List Bool} (h : Jv n q f rAt k i vs) (hv : k + i * q < n) (hm : (k + i * q) % q = k) (hd : (k + i * q) / q = i) {x : Bool} (hx : x = f (k + i * q)) : Jv n q f rAt k (i + 1) (vs.set (k + i * q) x) := by
  refine ⟨by rw [List.length_set]; exact h.1, fun v hvn hc => ?_⟩
  rw [rAt_get _ _ (by rw [List.length_set, h.1]; exact hvn), List.getElem_set]
  by_cases e : k + i * q = v
  · rw [if_pos e, hx, e]
  · rw [if_neg e, ← rAt_get _ _ (by rw [h.1]; exact hvn)]
    apply h.2 v hvn
    rcases hc with hc | ⟨h1, h2⟩
    · exact .inl hc
    · refine .inr ⟨h1, ?_⟩
      rcases Nat.lt_succ_iff_lt_or_eq.1 h2 with h3 | h3
      · exact h3
      · exfalso; apply e
        have := Nat.div_add_mod v q
        rw [h1, h3] at this
        rw [← this, Nat.mul_comm, Nat.add_comm]
theorem Jv.endR {n q : Nat} {f : Nat → Bool} {vs : List Bool} (hq : 1 ≤ q) (h : Jv n q f rAt q 0 vs) : vs = (List.range n).map f := by
  apply List.ext_getElem
  · rw [h.1]; simp
  · intro i h1 h2
    rw [← rAt_get _ _ h1, h.2 i (by rw [← h.1]; exact h1) (.inl (Nat.mod_lt _ hq))]; simp
/-- All messages of the first k partitions. -/
def msJ (L : List Pt) (k : Nat) : List Ms := (List.range k).flatMap fun j => (pAt L j).inn
theorem msJ_succ (L : List Pt) (k : Nat) : msJ L (k + 1) = msJ L k ++ (pAt L k).inn := by unfold msJ; rw [List.range_succ, List.flatMap_append]; simp
theorem Jn.len24 {n q : Nat} {L : List Pt} (h : Jn n q L) {k : Nat} (hk : k < q) : (pAt L k).inn.length ≤ 24 := by
  have := ris_len n _ _ (h.ris k hk)
  have := h.n24
  omega
theorem Jn.msJ {n q : Nat} {L : List Pt} (h : Jn n q L) (k : Nat) (hk : k ≤ q) : (msJ L k).length ≤ k * 24 := by
  induction k with
  | zero => unfold YtpgdddjjjfkneaaGreatDoor.msJ; simp
  | succ k ih =>
    rw [msJ_succ, List.length_append]
    have := ih (by omega)
    have := h.len24 (show k < q by omega)
    omega
/-- The messages, sorted by To, are those of the joined state. -/
theorem Jn.sorted {n q : Nat} {L : List Pt} (h : Jn n q L) {l' : List Ms} (hp : l'.Perm (YtpgdddjjjfkneaaGreatDoor.msJ L q)) (hs : l'.Pairwise fun a b => a.1 ≤ b.1) :
    l' = (List.range n).flatMap fun (v : Nat) => (pAt L (v % q)).inn.filter fun m => m.1 == (v : Int) := by
  have hq := h.q1
  have hne : (YtpgdddjjjfkneaaGreatDoor.msJ L q).Pairwise fun a b => a.1 ≠ b.1 := by
    unfold YtpgdddjjjfkneaaGreatDoor.msJ
    rw [List.pairwise_flatMap]
    refine ⟨fun k hk => ?_, ?_⟩
    · exact (ris_ris n (-1) _ (h.ris k (List.mem_range.1 hk))).imp fun {a b} hab => by omega
    · refine List.Pairwise.imp_of_mem ?_ List.nodup_range
      intro a b ha hb hab x hx y hy e
      have h1 := h.home a (List.mem_range.1 ha) x hx
      have h2 := h.home b (List.mem_range.1 hb) y hy
      unfold toHome at h1 h2
      simp only [Bool.and_eq_true, decide_eq_true_eq, beq_iff_eq] at h1 h2
      rw [e] at h1
      exact hab (h1.2.symm.trans h2.2)
  have hl : Ris l' := by
    have h1 := (hp.pairwise_iff (R := fun a b : Ms => a.1 ≠ b.1) (fun hab => hab.symm)).2 hne
    exact (hs.and h1).imp fun {a b} hab => by omega
  have ht : Ris ((List.range n).flatMap fun (v : Nat) => (pAt L (v % q)).inn.filter fun m => m.1 == (v : Int)) := by
    unfold Ris
    rw [List.pairwise_flatMap]
    refine ⟨fun v hv => ?_, ?_⟩
    · exact (ris_ris n (-1) _ (h.ris (v % q) (Nat.mod_lt _ hq))).filter _
    · refine List.Pairwise.imp ?_ (List.pairwise_lt_range (n := n))
      intro a b hab x hx y hy
      have h1 := (List.mem_filter.1 hx).2
      have h2 := (List.mem_filter.1 hy).2
      simp only [beq_iff_eq] at h1 h2
      omega
  have nd : ∀ {l : List Ms}, Ris l → l.Nodup := fun {l} hr => hr.imp fun {a b} hab e => by rw [e] at hab; omega
  have toS : ∀ {l : List Ms}, Ris l → Srt l := fun {l} hr => hr.imp fun {a b} hab => by rw [ltM_not]; omega
  refine srt_uniq _ _ (toS hl) (toS ht) ?_
  rw [List.perm_ext_iff_of_nodup (nd hl) (nd ht)]
  intro m
  rw [hp.mem_iff]
  unfold YtpgdddjjjfkneaaGreatDoor.msJ
  simp only [List.mem_flatMap, List.mem_range, List.mem_filter, beq_iff_eq]
  constructor
  · rintro ⟨k, hk, hm⟩
    have h1 := h.home k hk m hm
    have h2 := ris_to n (-1) _ (h.ris k hk) m hm
    unfold toHome at h1
    simp only [Bool.and_eq_true, decide_eq_true_eq, beq_iff_eq] at h1
    exact ⟨m.1.toNat, by omega, by rw [h1.2]; exact hm, by omega⟩
  · rintro ⟨v, hv, hm, _⟩
    exact ⟨v % q, Nat.mod_lt _ hq, hm⟩
section
variable {wb : World} {bo : Nat} {st : Int} {gV cV gR cR : Nat} {M : Option Addr} {cM : Nat} {vs : List Int} {rs : List Bool} {ms : List Ms} {W W' : World}
/-- The messages are put in another order. -/
theorem Qs.sort {V R : Option Addr} (h : Qs wb bo st V cV R cR M cM vs rs ms W) {ms' : List Ms} (hl : ms'.length = ms.length) (ho : W'.ownsRow wb.heap.size 118 2 (.slice M ms.length cM) ms.length (mc ms')) (hg : W.grownBy W' (Value.slice M ms.length cM).ownBlock) : Qs wb bo st V cV R cR M cM vs rs ms' W' :=
  ⟨h.bl.grown hg h.bl.size (fun k hk => (h.m.lt k hk).1), by rw [hl]; exact h.blk h.m (by decide) hg, own_apart h.v h.m hg (by decide), own_apart h.r h.m hg (by decide), by rw [hl]; exact ho, h.hb⟩
end
/-- The values, the rests of the joined state. -/
def jV (q : Nat) (L : List Pt) (v : Nat) : Int := vAt (pAt L (v % q)).vals (v / q)
def jR (q : Nat) (L : List Pt) (v : Nat) : Bool := rAt (pAt L (v % q)).rest (v / q)
theorem joinS_eq (n q : Nat) (L : List Pt) : joinS n q L = ⟨(pAt L 0).step, (List.range n).map (jV q L), (List.range n).map (jR q L), (List.range n).flatMap fun (v : Nat) => (pAt L (v % q)).inn.filter fun m => m.1 == (v : Int)⟩ := rfl
theorem join_ok {n q : Nat} {ls : List Pe} {st : Int} {l' : List Ms} (hJ : Jn n q (ls.map Pe.x)) (h : ∀ e ∈ ls, Ok e.S) (hst : bd st) (hp : l'.Perm (msJ (ls.map Pe.x) q)) : Ok ⟨st, (List.range n).map (jV q (ls.map Pe.x)), (List.range n).map (jR q (ls.map Pe.x)), l'⟩ := by
  have hl := hJ.len
  rw [List.length_map] at hl
  have hq := hJ.q1
  refine ⟨hst, fun x hx => ?_, fun e he => ?_, ?_, ?_, ?_⟩
  · obtain ⟨v, _, rfl⟩ := List.mem_map.1 hx
    have hk : v % q < ls.length := by rw [hl]; exact Nat.mod_lt _ hq
    unfold jV
    rw [pAt_pe ls _ hk]
    exact ok_vAt (h _ (List.getElem_mem hk)) _
  · have he' := hp.mem_iff.1 he
    unfold msJ at he'
    obtain ⟨k, hk, hm⟩ := List.mem_flatMap.1 he'
    have hk' : k < ls.length := by rw [hl]; exact List.mem_range.1 hk
    rw [pAt_pe ls _ hk'] at hm
    exact (h _ (List.getElem_mem hk')).m e hm
  · have := hJ.n24; simp; omega
  · have := hJ.n24; simp; omega
  · show l'.length ≤ _
    rw [hp.length_eq]
    have := hJ.msJ q (Nat.le_refl _)
    have := hJ.q6
    omega
def JoRel (n q : Nat) (ls : List Pe) (st : Int) (w6 : World) (bo gV gR : Nat) (i : Value) (W : World) : Prop := ∃ (k : Nat) (M : Option Addr) (cM : Nat) (vs : List Int) (rs : List Bool), i = .int .i64 k ∧ k ≤ q ∧
  Hid (Jv n q (jV q (ls.map Pe.x)) vAt k 0 vs) ∧ Hid (Jv n q (jR q (ls.map Pe.x)) rAt k 0 rs) ∧ Hid (Qs w6 bo st (some ⟨gV, 0, none⟩) n (some ⟨gR, 0, none⟩) n M cM vs rs (msJ (ls.map Pe.x) k) W)
def JiRel (n q k : Nat) (ls : List Pe) (st : Int) (w6 : World) (bo gV gR : Nat) (M : Option Addr) (cM : Nat) (m1 : Nat) (i : Value) (W : World) : Prop := ∃ (j : Nat) (vs : List Int) (rs : List Bool), i = .int .i64 j ∧ j ≤ m1 ∧
  Hid (Jv n q (jV q (ls.map Pe.x)) vAt k j vs) ∧ Hid (Jv n q (jR q (ls.map Pe.x)) rAt k j rs) ∧ Hid (Qs w6 bo st (some ⟨gV, 0, none⟩) n (some ⟨gR, 0, none⟩) n M cM vs rs (msJ (ls.map Pe.x) k) W)
set_option maxRecDepth 20000 in
set_option maxHeartbeats 4000000 in
theorem join_any (N : Int) (A : Option Addr) (n c : Nat) (es : List Ed) (p s l q : Int) (D : Option Addr) (d : Nat) (ls : List Pe) (w : World)
    (hA : Lies w w.heap.size 3 A n (ec es)) (hnc : n ≤ c) (hn : n ≤ maxLen) (hD : Pls w w.heap.size D d ls) :
    Calls Tryz.prog 23 #[.agg #[.int .i64 N, .slice A n c], .agg #[.int .i64 p, .int .i64 s, .int .i64 l, .int .i64 q], .slice D ls.length d] w (StPost (joinR N es p s l q (ls.map Pe.x)) w) := by
  have mixed : Tryz.prog.follows .mixedOrders = true := by kernel_rfl
  obtain ⟨im, him, hzm, hzsm, hzbm⟩ := info_parts (show (Tryz.prog.info? 118).map (fun i => (i.zero, i.size, i.bytes)) = some (some (.agg #[.int .i64 0, .int .i64 0]), 2, 16) by kernel_rfl)
  have IM := Lib.hid him
  have ZM := Lib.hid hzm
  have SM := Lib.hid hzsm
  have BM := Lib.hid hzbm
  clear him hzm hzsm hzbm
  have hbx := (Bx.init w N A n c p s l q).alloc (.cells #[.int .i64 0, .slice none 0 0, .slice none 0 0, .slice none 0 0] 39)
  have HA := Lib.hid (hA.next hbx.bl)
  have HD := Lib.hid (hD.next hbx.bl)
  have HBX := Lib.hid hbx
  clear hbx hA hD
  go_enter Tryz.func23, Tryz.ntmps23
  go_wp2_with fail
  refine (jcheck_any N A n c es p s l q _ HA.out hnc hn).mono ?_
  rintro e w5 ⟨rfl, hb5⟩
  have hx := HBX.out.next hb5
  have HT0 := Lib.hid (third w N A n c p s l q _ w5 hb5)
  have HB := Lib.hid hx.bl
  have HA5 := Lib.hid (HA.out.next hb5)
  have HD5 := Lib.hid (HD.out.next hb5)
  have HX := Lib.hid hx
  clear HA HD HBX hb5
  by_cases hj : jchk N es p s l q = 0
  · have HJ := Lib.hid hj
    have HN := Lib.hid (jchk_N hj)
    have HQ := Lib.hid (badJ_not (jchk_zero hj).2)
    rw [hj]
    clear hj
    obtain ⟨z1, g0, g1, j0, j1, j2, j3, bl1⟩ := hx
    clear z1 bl1
    go_wp2_with fail
    refine (together_any N A n c es p s l q D d ls _ HA5.out hnc hn HD5.out (by have := HQ.out; omega)).mono ?_
    rintro e w6 ⟨rfl, hb6⟩
    have HX6 := Lib.hid (HX.out.next hb6)
    have HD6 := Lib.hid (HD5.out.next hb6)
    have HT6 := Lib.hid (show w6.heap[w.heap.size + 1 + 1]? = some (.cells #[.int .i64 0, .slice none 0 0, .slice none 0 0, .slice none 0 0] 39) ∧ w.heap.size + 1 + 1 < w6.heap.size from ⟨(hb6.block _ HT0.out.2).trans HT0.out.1, Nat.lt_of_lt_of_le HT0.out.2 hb6.size⟩)
    have HB6 := Lib.hid HX6.out.bl
    clear g0 g1 j0 j1 j2 j3 hb6 HX HT0 HB HA5 HD5
    cases ht : joinB N es p s l q (ls.map Pe.x) with
    | false =>
      have HR := Lib.hid (show joinR N es p s l q (ls.map Pe.x) = (noSt, 1) by unfold joinR; rw [if_pos HJ.out, ht]; rfl)
      have z2 := HT6.out.1
      have r0 := cell_of_row w6 _ 0 _ 39 (0, 0) z2
      have f0 := unfrozen z2 0
      have r1 := cell_of_row w6 _ 1 _ 39 (0, 0) z2
      have f1 := unfrozen z2 1
      have r2 := cell_of_row w6 _ 2 _ 39 (0, 0) z2
      have f2 := unfrozen z2 2
      have r3 := cell_of_row w6 _ 3 _ 39 (0, 0) z2
      have f3 := unfrozen z2 3
      clear z2 ht
      go_wp2_with fail
      refine bodyPost_ret (v := .tuple #[.agg #[.int .i64 0, .slice none 0 0, .slice none 0 0, .slice none 0 0], .int .i64 1]) (by simp [results, Tryz.results23, go_sem, r0, r1, r2, r3]) rfl ?_
      exact st_no HR.out ((((HB6.out.setCell (by simp; omega) _).setCell (by simp; omega) _).setCell (by simp; omega) _).setCell (by simp; omega) _)
    | true =>
      have HJN := Lib.hid (Jn.of HJ.out ht)
      have HR := Lib.hid (show joinR N es p s l q (ls.map Pe.x) = (joinS N.toNat q.toNat (ls.map Pe.x), 0) by unfold joinR; rw [if_pos HJ.out, if_pos ht])
      clear ht
      obtain ⟨a, ha⟩ : ∃ a : Nat, q.toNat = a := ⟨_, rfl⟩
      obtain ⟨m, hm⟩ : ∃ m : Nat, N.toNat = m := ⟨_, rfl⟩
      have HQA := Lib.hid (show q = (a : Int) by have := HQ.out; omega)
      have HNM := Lib.hid (show N = (m : Int) by have := HN.out; omega)
      rw [ha, hm] at HJN HR
      clear ha hm
      have hm24 : m ≤ 24 := HJN.out.n24
      have ha6 : 1 ≤ a ∧ a ≤ 6 := ⟨HJN.out.q1, HJN.out.q6⟩
      have hlsa : ls.length = a := by have := HJN.out.len; simpa using this
      have HLS := Lib.hid hlsa
      have h0l : (0 : Int) < (ls.length : Int) := by omega
      obtain ⟨ad, rfl, k1, k2, y1, k3, k4, k5⟩ := Lies.pe7 HD6.out.L 0 (by omega)
      clear k1 k2 k3 k4 k5
      rw [Nat.zero_mul, YtpgdddjjjfkneaaGreatDoor.add_zero] at y1
      have HST := Lib.hid (show ls[0].S.step = (pAt (ls.map Pe.x) 0).step by rw [pAt_pe ls 0 (by omega)]; rfl)
      obtain ⟨st, hst⟩ : ∃ st, ls[0].S.step = st := ⟨_, rfl⟩
      have HSTB := Lib.hid ((HD6.out.at 0 (by omega)).ok.st)
      rw [hst] at y1 HST HSTB
      clear hst hlsa
      have hmk1 : ∀ W : World, (Instr.makeSlice 31 (.int .i64 N) (.int .i64 N)).run Tryz.prog W = .ok (.slice (some ⟨W.heap.size, 0, none⟩) m m) (W.alloc (.cells (madeCells #[.int .i64 0] m) 2)) := fun W => by
        rw [HNM.out]; exact run_make_row' 31 2 (.int .i64 0) 8 Tryz.underlying31 (by kernel_rfl) rfl .i64 .i64 m (by omega) (by omega) W
      have hmk2 : ∀ W : World, (Instr.makeSlice 36 (.int .i64 N) (.int .i64 N)).run Tryz.prog W = .ok (.slice (some ⟨W.heap.size, 0, none⟩) m m) (W.alloc (.cells (madeCells #[.bool false] m) 4)) := fun W => by
        rw [HNM.out]; exact run_make_row' 36 4 (.bool false) 1 Tryz.underlying36 (by kernel_rfl) rfl .i64 .i64 m (by omega) (by omega) W
      have HML := Lib.hid (show m ≤ maxLen by unfold maxLen; omega)
      have HZV := Lib.hid (made_v m)
      have HZR := Lib.hid (made_r m)
      have g0 := HX6.out.g0
      obtain ⟨zv, hzv⟩ : ∃ zv, zv = madeCells #[.int .i64 0] m := ⟨_, rfl⟩
      obtain ⟨zr, hzr⟩ : ∃ zr, zr = madeCells #[.bool false] m := ⟨_, rfl⟩
      rw [← hzv] at hmk1 HZV
      rw [← hzr] at hmk2 HZR
      clear hzv hzr
      have ga : ∀ o : Obj, (w6.alloc o).cell? ⟨w.heap.size, 0, none⟩ = some (.int .i64 N) := fun o => (HX6.out.alloc o).g0
      have gb : ∀ o o' : Obj, ((w6.alloc o).alloc o').cell? ⟨w.heap.size, 0, none⟩ = some (.int .i64 N) := fun o o' => ((HX6.out.alloc o).alloc o').g0
      have hbk : ad.block < w6.heap.size := World.block_lt_of_cell? w6 ⟨ad.block, ad.off + 1, none⟩ y1
      have ya : ∀ o : Obj, (w6.alloc o).cell? ⟨ad.block, ad.off + 1, none⟩ = some (.int .i64 st) := fun o => (World.cell?_alloc_lt w6 o ⟨ad.block, ad.off + 1, none⟩ hbk).trans y1
      have yb : ∀ o o' : Obj, ((w6.alloc o).alloc o').cell? ⟨ad.block, ad.off + 1, none⟩ = some (.int .i64 st) := fun o o' => (World.cell?_alloc_lt (w6.alloc o) o' ⟨ad.block, ad.off + 1, none⟩ (by simp; omega)).trans (ya o)
      have yc : ∀ o o' o'' : Obj, (((w6.alloc o).alloc o').alloc o'').cell? ⟨ad.block, ad.off + 1, none⟩ = some (.int .i64 st) := fun o o' o'' => (World.cell?_alloc_lt ((w6.alloc o).alloc o') o'' ⟨ad.block, ad.off + 1, none⟩ (by simp; omega)).trans (yb o o')
      clear hbk
      go_upto_region 6 with fail
      go_cut [9] (fun s9 W => ∃ bn gV gR, s9 = .pointer (some ⟨bn, 0, none⟩) ∧ Qs w6 bn st (some ⟨gV, 0, none⟩) m (some ⟨gR, 0, none⟩) m none 0 (List.replicate m 0) (List.replicate m false) [] W)
      case first =>
        go_region
        all_goals (go_wp2_with fail; go_meet; first | exact ⟨_, w6.heap.size, w6.heap.size + 1, rfl, qs_three HZV.out HZR.out HML.out (three _ _ _ _).2.2.2 (three _ _ _ _).1 (three _ _ _ _).2.1 (three _ _ _ _).2.2.1 (by omega) (by omega) (by omega)⟩ | exact ⟨_, w6.heap.size, w6.heap.size + 1 + 1, rfl, qs_three HZV.out HZR.out HML.out (three _ _ _ _).2.2.2 (three _ _ _ _).1 (three _ _ _ _).2.2.1 (three _ _ _ _).2.1 (by omega) (by omega) (by omega)⟩ | exact ⟨_, w6.heap.size + 1, w6.heap.size, rfl, qs_three HZV.out HZR.out HML.out (three _ _ _ _).2.2.2 (three _ _ _ _).2.1 (three _ _ _ _).1 (three _ _ _ _).2.2.1 (by omega) (by omega) (by omega)⟩ | exact ⟨_, w6.heap.size + 1, w6.heap.size + 1 + 1, rfl, qs_three HZV.out HZR.out HML.out (three _ _ _ _).2.2.2 (three _ _ _ _).2.1 (three _ _ _ _).2.2.1 (three _ _ _ _).1 (by omega) (by omega) (by omega)⟩ | exact ⟨_, w6.heap.size + 1 + 1, w6.heap.size, rfl, qs_three HZV.out HZR.out HML.out (three _ _ _ _).2.2.2 (three _ _ _ _).2.2.1 (three _ _ _ _).1 (three _ _ _ _).2.1 (by omega) (by omega) (by omega)⟩ | exact ⟨_, w6.heap.size + 1 + 1, w6.heap.size + 1, rfl, qs_three HZV.out HZR.out HML.out (three _ _ _ _).2.2.2 (three _ _ _ _).2.2.1 (three _ _ _ _).2.1 (three _ _ _ _).1 (by omega) (by omega) (by omega)⟩)
      case rest =>
        obtain ⟨bn, gV, gR, rfl, hqs⟩ := hcut
        have HQS := Lib.hid hqs
        have j3 := (HX6.out.next hqs.bl).j3
        clear hqs ga gb ya yb yc y1 g0 hmk1 hmk2 HZV HZR
        go_wp2_with fail
        clear j3
        go_loopw [39] (fun i W => JoRel m a ls st w6 bn gV gR i W) (fun i W => a - (intOf i).toNat)
        case atStart => exact ⟨0, none, 0, _, _, rfl, Nat.zero_le _, Lib.hid ⟨by simp, fun v _ hc => by rcases hc with h | ⟨_, h⟩ <;> exact absurd h (Nat.not_lt_zero _)⟩, Lib.hid ⟨by simp, fun v _ hc => by rcases hc with h | ⟨_, h⟩ <;> exact absurd h (Nat.not_lt_zero _)⟩, HQS⟩
        case round =>
          obtain ⟨k, M, cM, vs, rs, rfl, hk, HVV, HRR, HQK⟩ := hrel
          clear HQS
          have HXW := Lib.hid (HX6.out.next HQK.out.bl)
          by_cases hka : k < a
          · have hkq : (k : Int) < q := by have := HQA.out; omega
            have hlt : k < ls.length := by have := HLS.out; omega
            have hkl : (k : Int) < (ls.length : Int) := by omega
            have HDW := Lib.hid (fun (W : World) (hb : Below w6.heap.size w6 W) => (HD6.out.next hb).L.pe k hlt)
            have HSA := Lib.hid (fun (W : World) (hb : Below w6.heap.size w6 W) => (HD6.out.next hb).at k hlt)
            have HPK := Lib.hid (pAt_pe ls k hlt)
            generalize ls[k].P = P at *
            generalize ls[k].S = S at *
            generalize ls[k].A1 = A1 at *
            generalize ls[k].A2 = A2 at *
            generalize ls[k].A3 = A3 at *
            generalize ls[k].c1 = c1 at *
            generalize ls[k].c2 = c2 at *
            generalize ls[k].c3 = c3 at *
            obtain ⟨ad', ea, k1, k2, k3, x2, k4, k5⟩ := HDW.out wr HQK.out.bl
            injection ea with ea
            subst ea
            clear k1 k2 k3 k4 k5
            have HLV := Lib.hid (show S.vals.length = (verts m a k).length by have := HJN.out.vl k hka; rw [HPK.out] at this; exact this)
            have HLR := Lib.hid (show S.rest.length = (verts m a k).length by have := HJN.out.rl k hka; rw [HPK.out] at this; exact this)
            have HLM := Lib.hid (show S.inn.length ≤ 24 by have := HJN.out.len24 hka; rw [HPK.out] at this; exact this)
            have HAT := Lib.hid (show ∀ i, i < S.vals.length → k + i * a < m ∧ (k + i * a) % a = k ∧ (k + i * a) / a = i from fun i hi => HJN.out.at hka (by rw [HPK.out]; exact hi))
            have HFV := Lib.hid (show ∀ i, i < S.vals.length → vAt S.vals i = jV a (ls.map Pe.x) (k + i * a) from fun i hi => by unfold jV; rw [(HAT.out i hi).2.1, (HAT.out i hi).2.2, HPK.out]; rfl)
            have HFR := Lib.hid (show ∀ i, i < S.vals.length → rAt S.rest i = jR a (ls.map Pe.x) (k + i * a) from fun i hi => by unfold jR; rw [(HAT.out i hi).2.1, (HAT.out i hi).2.2, HPK.out]; rfl)
            have HALL := Lib.hid (show ∀ v, v < m → v % a = k → v / a < S.vals.length by have := HJN.out.all hka; rw [HPK.out] at this; exact this)
            have HMS := Lib.hid (show msJ (ls.map Pe.x) (k + 1) = msJ (ls.map Pe.x) k ++ S.inn by rw [msJ_succ, HPK.out]; rfl)
            have hml : (msJ (ls.map Pe.x) k).length ≤ 144 := by have := HJN.out.msJ k (by omega); omega
            clear HXW
            go_wp2_with fail
            clear x2
            go_loopw [48] (fun i W => JiRel m a k ls st w6 bn gV gR M cM S.vals.length i W) (fun i W => S.vals.length - (intOf i).toNat)
            case atStart => exact ⟨0, vs, rs, rfl, Nat.zero_le _, HVV, HRR, HQK⟩
            case round =>
              clear HVV HRR HQK
              obtain ⟨j, vs, rs, rfl, hjl, HVV, HRR, HQK⟩ := hrel
              have HXW := Lib.hid (HX6.out.next HQK.out.bl)
              obtain ⟨ad', ea, k1, k2, k3, x2, x3, x4⟩ := HDW.out wr HQK.out.bl
              injection ea with ea
              subst ea
              clear k1 k2 k3
              obtain ⟨ad', ea, hadk, k2, k3, k4, k5, k6⟩ := HDW.out w6 (Below.refl _ _)
              injection ea with ea
              subst ea
              clear k2 k3 k4 k5 k6
              have HSW := Lib.hid (HSA.out wr HQK.out.bl)
              by_cases hjm : j < S.vals.length
              · have hjN : (j : Int) < (S.vals.length : Int) := by omega
                have hjR : j < S.rest.length := by have := HLV.out; have := HLR.out; omega
                have hjR' : (j : Int) < (S.rest.length : Int) := by omega
                obtain ⟨ad1, rfl, k1, e1⟩ := HSW.out.v.vs j hjm
                obtain ⟨ad2, rfl, k2, e2⟩ := HSW.out.r.rs j hjR
                obtain ⟨ad', ea, had1, k3⟩ := (HSA.out w6 (Below.refl _ _)).v.vs j hjm
                injection ea with ea
                subst ea
                obtain ⟨ad', ea, had2, k4⟩ := (HSA.out w6 (Below.refl _ _)).r.rs j hjR
                injection ea with ea
                subst ea
                clear k1 k2 k3 k4 x4
                have j3 := HXW.out.j3
                obtain ⟨hx1, hx2, hx3⟩ := HAT.out j hjm
                have HV2 := Lib.hid (HVV.out.set hx1 hx2 hx3 (HFV.out j hjm))
                have HR2 := Lib.hid (HRR.out.setR hx1 hx2 hx3 (HFR.out j hjm))
                have HVL := Lib.hid HVV.out.1
                have HRL := Lib.hid HRR.out.1
                obtain ⟨y, hy⟩ : ∃ y : Nat, y = j * a := ⟨_, rfl⟩
                have hmul : (j : Int) * q = (y : Int) := by rw [HQA.out, hy]; push_cast; rfl
                obtain ⟨x, hx⟩ : ∃ x : Nat, x = k + y := ⟨_, rfl⟩
                have hadd : (k : Int) + (y : Int) = (x : Int) := by rw [hx]; push_cast; rfl
                rw [← hy, ← hx] at hx1 HV2 HR2
                have HYX := Lib.hid (show y ≤ x by omega)
                clear hx2 hx3
                have hxm : (x : Int) < (m : Int) := by omega
                have hy24 : y ≤ 24 := by omega
                have hx24 : x < 24 := by omega
                have hj24 : j ≤ 24 := by have h1 : j ≤ j * a := Nat.le_mul_of_pos_right j (by omega); omega
                clear hy hx
                have HQ7 := Lib.hid ((HQK.out.set x (vAt S.vals j) (rAt S.rest j)).next (Below.refl _ _).drew)
                have b1 := HQK.out.kV
                have b2 := HQK.out.kR
                rw [HVL.out] at b1
                rw [HRL.out] at b2
                obtain ⟨n1, n2, n3, n6, n7, n4, n5⟩ := HQK.out.apart
                obtain ⟨u1, t1⟩ : ∃ u, wr.cell? ⟨gV, x, none⟩ = some u := ⟨_, (HQK.out.v.cellAt x (by rw [HVL.out]; omega)).trans (vc_at _ x (by rw [HVL.out]; omega))⟩
                obtain ⟨u2, t2⟩ : ∃ u, wr.cell? ⟨gR, x, none⟩ = some u := ⟨_, (HQK.out.r.cellAt x (by rw [HRL.out]; omega)).trans (rc_at _ x (by rw [HRL.out]; omega))⟩
                have f1 := HQK.out.v.frozenAt x
                have f2 := HQK.out.r.frozenAt x
                have n1' : ¬ gR = gV := fun e => n1 e.symm
                generalize vAt S.vals j = xv at *
                generalize rAt S.rest j = xr at *
                have q1 : ∀ u, (wr.setCell ⟨gV, x, none⟩ u).cell? ⟨bn, 1, none⟩ = _ := fun u => cell_set (fun e => n2 e.symm) b1
                have q2 : ∀ u, (wr.setCell ⟨gV, x, none⟩ u).cell? ⟨bn, 2, none⟩ = _ := fun u => cell_set (fun e => n2 e.symm) b2
                have q3 : ∀ u, (wr.setCell ⟨gR, x, none⟩ u).cell? ⟨bn, 1, none⟩ = _ := fun u => cell_set (fun e => n3 e.symm) b1
                have q4 : ∀ u, (wr.setCell ⟨gR, x, none⟩ u).cell? ⟨bn, 2, none⟩ = _ := fun u => cell_set (fun e => n3 e.symm) b2
                have q5 : ∀ u, (wr.setCell ⟨gV, x, none⟩ u).cell? ⟨gR, x, none⟩ = _ := fun u => cell_set (fun e => n1 e.symm) t2
                have q6 : ∀ u, (wr.setCell ⟨gV, x, none⟩ u).frozen? ⟨gR, x, none⟩ = false := fun u => frozen_set (fun e => n1 e.symm) f2
                have q7 : ∀ u, (wr.setCell ⟨gR, x, none⟩ u).cell? ⟨gV, x, none⟩ = _ := fun u => cell_set n1 t1
                have q8 : ∀ u, (wr.setCell ⟨gR, x, none⟩ u).frozen? ⟨gV, x, none⟩ = false := fun u => frozen_set n1 f1
                have hbV : ∀ (a : Addr) (i : Nat), a.block < w6.heap.size → (a.add i).block ≠ gV := fun a i h => by rw [block_add]; omega
                have hbR : ∀ (a : Addr) (i : Nat), a.block < w6.heap.size → (a.add i).block ≠ gR := fun a i h => by rw [block_add]; omega
                have q9 : ∀ u, (wr.setCell ⟨gV, x, none⟩ u).cell? ⟨(ad.add (k * 5)).block, (ad.add (k * 5)).off + 2, none⟩ = _ := fun u => cell_set (hbV _ _ hadk) x2
                have q10 : ∀ u, (wr.setCell ⟨gV, x, none⟩ u).cell? ⟨(ad.add (k * 5)).block, (ad.add (k * 5)).off + 3, none⟩ = _ := fun u => cell_set (hbV _ _ hadk) x3
                have q11 : ∀ u, (wr.setCell ⟨gR, x, none⟩ u).cell? ⟨(ad.add (k * 5)).block, (ad.add (k * 5)).off + 2, none⟩ = _ := fun u => cell_set (hbR _ _ hadk) x2
                have q12 : ∀ u, (wr.setCell ⟨gR, x, none⟩ u).cell? ⟨(ad.add (k * 5)).block, (ad.add (k * 5)).off + 3, none⟩ = _ := fun u => cell_set (hbR _ _ hadk) x3
                have q13 : ∀ u, (wr.setCell ⟨gV, x, none⟩ u).cell? (ad1.add j) = _ := fun u => cell_set (hbV _ _ had1) e1
                have q14 : ∀ u, (wr.setCell ⟨gV, x, none⟩ u).cell? (ad2.add j) = _ := fun u => cell_set (hbV _ _ had2) e2
                have q15 : ∀ u, (wr.setCell ⟨gR, x, none⟩ u).cell? (ad1.add j) = _ := fun u => cell_set (hbR _ _ had1) e1
                have q16 : ∀ u, (wr.setCell ⟨gR, x, none⟩ u).cell? (ad2.add j) = _ := fun u => cell_set (hbR _ _ had2) e2
                clear n2 n3 n4 n5 n6 n7 HXW HSW HQK hbV hbR hadk had1 had2
                go_upto_region 14 with fail
                go_region
                all_goals
                  go_wp2_with fail
                  go_roundw
                  case rel => exact ⟨j + 1, _, _, by go_num, by omega, HV2, HR2, HQ7⟩
                  case measure => simp [intOf]; omega
              · have hj' : j = S.vals.length := by omega
                subst hj'
                clear x2 x3 hadk
                have b3 := HQK.out.kM
                have HP7 := Lib.hid (HQK.out.next (Below.refl _ wr).drew)
                have HL7 := Lib.hid (show Lies wr.drew wr.heap.size 2 A3 S.inn.length (mc S.inn) from HSW.out.m)
                have hil := HLM.out
                clear HXW HSW HQK
                generalize hms : msJ (ls.map Pe.x) k = ms at *
                have HM7 := Lib.hid HP7.out.m
                go_upto_region 16 with fail
                go_region_law (refine step_own1 rfl _ _ 37 rfl w6.heap.size 118 im _ 2 16 Tryz.underlying37 IM.out ZM.out SM.out BM.out rfl (by decide) M ms.length cM (mc ms) (by simp [Act.eval]) HM7.out wr.heap.size A3 S.inn.length c3 (mc S.inn) (by simp [Act.eval]) HL7.out (mc_one _) (by unfold maxLen; omega) (by omega) HP7.out.bl.size ?_; intro A9 c9 w9 ho9 hb9 hg9; obtain ⟨hp9, t9, f9⟩ := HP7.out.putM (ys := S.inn) rfl ho9 hb9 hg9; have HP9 := Lib.hid hp9)
                all_goals
                  clear b3 x4 HP7 HM7 HL7 hp9 t9 f9 ho9 hb9 hg9
                  go_wp2_with fail
                  go_roundw
                  case rel => exact ⟨k + 1, A9, c9, vs, rs, by go_num, by omega, Lib.hid (HVV.out.next HALL.out), Lib.hid (HRR.out.next HALL.out), by rw [HMS.out]; exact HP9⟩
                  case measure => simp [intOf]; omega
          · have hk' : k = a := by omega
            subst hk'
            have hkq : ¬ ((k : Int) < q) := by have := HQA.out; omega
            have b3 := HQK.out.kM
            have hml : (msJ (ls.map Pe.x) k).length ≤ 144 := by have := HJN.out.msJ k (Nat.le_refl _); omega
            clear HXW
            go_wp2_with fail
            refine (sortTo_any wr w6.heap.size M cM (msJ (ls.map Pe.x) k) HQK.out.m (by omega)).mono ?_
            rintro e w8 ⟨rfl, l', hp, hs, ho8, hg8⟩
            have HQ8 := Lib.hid (HQK.out.sort hp.length_eq ho8 hg8)
            have HVE := Lib.hid (HVV.out.end ha6.1)
            have HRE := Lib.hid (HRR.out.endR ha6.1)
            have HSE := Lib.hid (HJN.out.sorted hp hs)
            have HOK := Lib.hid (join_ok HJN.out (fun e he => (HD6.out.el e he).ok) (show bd st from HSTB.out) hp)
            rw [← HVE.out, ← HRE.out] at HOK
            have HJS := Lib.hid (show joinS m k (ls.map Pe.x) = ⟨st, vs, rs, l'⟩ by rw [joinS_eq, ← HVE.out, ← HRE.out, ← HSE.out, ← HST.out])
            clear b3 hp hs ho8 hg8 HQK HVV HRR HVE HRE HSE
            have b0 := HQ8.out.c0
            have b1 := HQ8.out.kV
            have b2 := HQ8.out.kR
            have b3 := HQ8.out.kM
            have z2 := (HQ8.out.bl.block _ HT6.out.2).trans HT6.out.1
            have r0 := cell_of_row w8 _ 0 _ 39 (0, 0) z2
            have f0 := unfrozen z2 0
            have r1 := cell_of_row w8 _ 1 _ 39 (0, 0) z2
            have f1 := unfrozen z2 1
            have r2 := cell_of_row w8 _ 2 _ 39 (0, 0) z2
            have f2 := unfrozen z2 2
            have r3 := cell_of_row w8 _ 3 _ 39 (0, 0) z2
            have f3 := unfrozen z2 3
            have HLT := Lib.hid HT6.out.2
            have hne : ¬ w.heap.size + 1 + 1 = bn := by have := HQ8.out.hb; have := HLT.out; omega
            have HBW := Lib.hid (HX6.out.next HQ8.out.bl).bl
            clear z2
            go_wp2_with fail
            refine bodyPost_ret (v := .tuple #[.agg #[.int .i64 st, .slice (some ⟨gV, 0, none⟩) vs.length m, .slice (some ⟨gR, 0, none⟩) rs.length m, .slice M l'.length cM], .int .i64 0]) (by simp [results, Tryz.results23, go_sem, r0, r1, r2, r3]) rfl ?_
            have st8 := fun {e z m8 : Nat} {u : Value} {xs : List Value} (h : w8.ownsRow w6.heap.size e z u m8 xs) => ownsRow_setCell_below (ownsRow_setCell_below (ownsRow_setCell_below (ownsRow_setCell_below h (a := ⟨w.heap.size + 1 + 1, 0, none⟩) HLT.out (.int .i64 st)) (a := ⟨w.heap.size + 1 + 1, 1, none⟩) HLT.out (.slice (some ⟨gV, 0, none⟩) vs.length m)) (a := ⟨w.heap.size + 1 + 1, 2, none⟩) HLT.out (.slice (some ⟨gR, 0, none⟩) rs.length m)) (a := ⟨w.heap.size + 1 + 1, 3, none⟩) HLT.out (.slice M l'.length cM)
            rw [HR.out, HJS.out]
            refine ⟨(((HBW.out.setCell (by simp; omega) _).setCell (by simp; omega) _).setCell (by simp; omega) _).setCell (by simp; omega) _, some ⟨gV, 0, none⟩, m, some ⟨gR, 0, none⟩, m, M, cM, rfl, ?_, (Fr.own HQ8.out.v).low HB6.out.size, (Fr.own HQ8.out.r).low HB6.out.size, (Fr.own HQ8.out.m).low HB6.out.size⟩
            exact ⟨Lies.of_own (st8 HQ8.out.v), Lies.of_own (st8 HQ8.out.r), Lies.of_own (st8 HQ8.out.m), own_cap HQ8.out.v, own_cap HQ8.out.r, own_cap HQ8.out.m, HOK.out⟩
  · have HR := Lib.hid (show joinR N es p s l q (ls.map Pe.x) = (noSt, jchk N es p s l q) by unfold joinR; rw [if_neg hj])
    have hj1 : (jchk N es p s l q != 0) = true := by simpa using hj
    have z2 := HT0.out.1
    have r0 := cell_of_row w5 _ 0 _ 39 (0, 0) z2
    have f0 := unfrozen z2 0
    have r1 := cell_of_row w5 _ 1 _ 39 (0, 0) z2
    have f1 := unfrozen z2 1
    have r2 := cell_of_row w5 _ 2 _ 39 (0, 0) z2
    have f2 := unfrozen z2 2
    have r3 := cell_of_row w5 _ 3 _ 39 (0, 0) z2
    have f3 := unfrozen z2 3
    clear z2 hj hx
    go_wp2_with fail
    refine bodyPost_ret (v := .tuple #[.agg #[.int .i64 0, .slice none 0 0, .slice none 0 0, .slice none 0 0], .int .i64 (jchk N es p s l q)]) (by simp [results, Tryz.results23, go_sem, r0, r1, r2, r3]) rfl ?_
    exact st_no HR.out ((((HB.out.setCell (by simp; omega) _).setCell (by simp; omega) _).setCell (by simp; omega) _).setCell (by simp; omega) _)
theorem join_of_split {N : Int} {es : List Ed} {p s l q : Int} {S : St} (h : rightB N es p s l q S = true) : joinR N es p s l q ((List.range q.toNat).map (cutP N.toNat q.toNat S)) = (S, 0) := by
  have hj := (right_of h).1
  have hb := badJ_not (jchk_zero hj).2
  have hB : joinB N es p s l q ((List.range q.toNat).map (cutP N.toNat q.toNat S)) = true := by
    refine join_good (by simp; omega) (fun k hk => ?_)
    have hk' : k < q.toNat := by simpa using hk
    unfold goodB
    rw [split_len N es p s l q S k hk', split_len N es p s l q S 0 (by omega), cut_right h k hk']
    simp [cutP]
  unfold joinR
  rw [if_pos hj, if_pos hB, join_split h]
end Go.Proofs.YtpgdddjjjfkneaaGreatDoor

