import Derived.Test.YtemcmhpfpfmgdaaVq
/-
  The contracts of the document's own Good, Inc and Ids. No condition but that the lists have at most a million members.
-/
namespace Go.Proofs.Ytemcmhpfpfmgdaa
open Go.ChangeShapes Go.WideShapes Go.ChangeAt Go.RowKit Go.Maps
set_option linter.unusedVariables false

/-- A view of members that lay there already is answered. -/
def GPost (v : V) (B : Nat) (w : World) (r : Ending) (w' : World) : Prop := ∃ A c, r = .returned (.agg #[.int .i64 v.1, .slice A v.2.length c]) ∧ Lies w B 2 A v.2.length (mc v.2) ∧ Below w.heap.size w w'
theorem gp_of {v : V} {B : Nat} {w w' : World} {num : Int} {A : Option Addr} {n c : Nat} {l : List Mb} (hv : v = (num, l)) (hn : l.length = n) (ho : Lies w B 2 A n (mc l)) (hb : Below w.heap.size w w') : GPost v B w (.returned (.agg #[.int .i64 num, .slice A n c])) w' := by
  subst hv hn
  exact ⟨A, c, rfl, ho, hb⟩
set_option maxHeartbeats 2000000 in
set_option maxRecDepth 20000 in
theorem good_any (num : Int) (A : Option Addr) (c : Nat) (l : List Mb) (B : Nat) (w : World) (hB : B ≤ w.heap.size) (hA : Lies w B 2 A l.length (mc l)) (hn : l.length ≤ 1000000) :
    Calls Try.prog 27 #[.agg #[.int .i64 num, .slice A l.length c]] w (GPost (good (num, l)) B w) := by
  have HA := Lib.hid hA
  have hI := Vb.init w (.int .i64 num) (.slice A l.length c) (.int .i64 0) (.slice none 0 0) 30 30
  clear hA
  have r0 : ((w.alloc (.cells #[.int .i64 num, .slice A l.length c] 30)).alloc (.cells #[.int .i64 0, .slice none 0 0] 30)).cell? ⟨w.heap.size, 0, none⟩ = some (.int .i64 num) := c2_0 hI.h0
  have r1 : ((w.alloc (.cells #[.int .i64 num, .slice A l.length c] 30)).alloc (.cells #[.int .i64 0, .slice none 0 0] 30)).cell? ⟨w.heap.size, 1, none⟩ = some (.slice A l.length c) := c2_1 hI.h0
  go_enter Try.func27, Try.ntmps27
  go_upto_region 1 with fail
  generalize (w.alloc (.cells #[.int .i64 num, .slice A l.length c] 30)).alloc (.cells #[.int .i64 0, .slice none 0 0] 30) = w2 at hI r0 r1 ⊢
  go_wp2_with fail
  refine (rright_any num A c l _ ((HA.out.more hB).next hI.bl) hn).mono ?_
  rintro e w3 ⟨rfl, hb3⟩
  have hI3 := hI.next hb3
  have HI := Lib.hid hI3
  clear r0 r1 hI hb3
  have d0 := c2_0 hI3.h0
  have d1 := c2_1 hI3.h0
  have r0 := c2_0 hI3.h1
  have f0 := unfrozen hI3.h1 0
  have r1 := c2_1 hI3.h1
  have f1 := unfrozen hI3.h1 1
  clear hI3
  cases hq : rightV (num, l) with
  | false =>
    have HG := Lib.hid (good_no hq)
    clear hq
    go_wp2_with fail
    refine bodyPost_ret (v := .agg #[.int .i64 0, .slice none 0 0]) (by simp [results, Try.results27, go_sem, r0, r1]) rfl ?_
    exact gp_of (l := []) HG.out rfl Lies.nil (HI.out.setR _ _).bl
  | true =>
    have HG := Lib.hid (good_eq hq)
    clear hq
    go_wp2_with fail
    refine bodyPost_ret (v := .agg #[.int .i64 num, .slice A l.length c]) (by simp [results, Try.results27, go_sem, r0, r1]) rfl ?_
    exact gp_of HG.out rfl HA.out (HI.out.setR _ _).bl
theorem inc_step {l : List Mb} {k : Nat} {id : Int} (h : k < l.length) : incL (l.drop k) id = if (mAt l k).1 = id then (mAt l k).2 else incL (l.drop (k + 1)) id := by
  rw [mdrop_at l k h]; rfl
theorem lies_set2 {W : World} {B s n b : Nat} {A : Option Addr} {xs : List Value} (h : Lies W B s A n xs) (hb : B ≤ b) (u v : Value) : Lies ((W.setCell ⟨b, 0, none⟩ u).setCell ⟨b, 1, none⟩ v) B s A n xs :=
  h.keep fun p hp => World.cell?_of_block ((Below.heap_setCell _ _ _ _ (by show p.block ≠ b; omega)).trans (Below.heap_setCell _ _ _ _ (by show p.block ≠ b; omega)))
def IcRel (l : List Mb) (id : Int) (w4 : World) (i : Value) (W : World) : Prop := ∃ k : Nat, i = .int .i64 k ∧ k ≤ l.length ∧ Hid (incL l id = incL (l.drop k) id) ∧ W = w4
set_option maxHeartbeats 2000000 in
set_option maxRecDepth 20000 in
theorem rinc_any (num : Int) (A : Option Addr) (c : Nat) (l : List Mb) (id : Int) (w : World) (hA : Lies w w.heap.size 2 A l.length (mc l)) (hn : l.length ≤ 1000000) :
    Calls Try.prog 19 #[.agg #[.int .i64 num, .slice A l.length c], .int .i64 id] w fun e w' => e = .returned (.int .i64 (incL (good (num, l)).2 id)) ∧ Below w.heap.size w w' := by
  have HB := Lib.hid (below_alloc w (.cells #[.int .i64 num, .slice A l.length c] 30))
  have h0 := World.alloc_heap_new w (.cells #[.int .i64 num, .slice A l.length c] 30)
  have CG := Lib.hid (fun (W : World) (hb : Below w.heap.size w W) => good_any num A c l w.heap.size W hb.size (hA.below hb) hn)
  obtain ⟨g, hg⟩ : ∃ g, g = good (num, l) := ⟨_, rfl⟩
  have HR := Lib.hid (show rightV g = true by rw [hg]; exact good_right _)
  rw [← hg] at CG ⊢
  clear hA hg
  obtain ⟨gn, gl⟩ := g
  have HN := Lib.hid (right_num HR.out)
  have d0 := c2_0 h0
  have d1 := c2_1 h0
  have HZ1 := Lib.hid (show (w.alloc (.cells #[.int .i64 num, .slice A l.length c] 30)).heap.size = w.heap.size + 1 by simp)
  go_enter Try.func19, Try.ntmps19
  go_upto_region 1 with fail
  generalize w.alloc (.cells #[.int .i64 num, .slice A l.length c] 30) = w1 at HB h0 d0 d1 HZ1 ⊢
  go_wp2_with fail
  refine (CG.out _ HB.out).mono ?_
  rintro e w3 ⟨A1, c1, rfl, ho3, hb3⟩
  simp only at ho3
  have h3 := (hb3.block w.heap.size (by rw [HZ1.out]; omega)).trans h0
  clear d0 d1 h0
  have d0 := c2_0 h3
  have d1 := c2_1 h3
  have f0 := unfrozen h3 0
  have f1 := unfrozen h3 1
  have H4 := Lib.hid (set2_at h3 (.int .i64 gn) (.slice A1 gl.length c1))
  have HB4 := Lib.hid (below_set2 (HB.out.trans (hb3.mono HB.out.size)) (Nat.le_refl w.heap.size) (.int .i64 gn) (.slice A1 gl.length c1))
  have HL4 := Lib.hid (show Lies ((w3.setCell ⟨w.heap.size, 0, none⟩ (.int .i64 gn)).setCell ⟨w.heap.size, 1, none⟩ (.slice A1 gl.length c1)) w.heap.size 2 A1 gl.length (mc gl) from lies_set2 (ho3.keep (fun p hp => hb3.cell (by rw [HZ1.out]; omega))) (Nat.le_refl _) _ _)
  clear ho3 hb3 h3
  go_upto_region 2 with fail
  generalize (w3.setCell ⟨w.heap.size, 0, none⟩ (.int .i64 gn)).setCell ⟨w.heap.size, 1, none⟩ (.slice A1 gl.length c1) = w4 at H4 HB4 HL4 ⊢
  clear d0 d1 f0 f1
  have d1 := c2_1 H4.out
  go_wp2_with fail
  go_loopw [5] (fun i W => IcRel gl id w4 i W) (fun i W => gl.length - (intOf i).toNat)
  case atStart => exact ⟨0, rfl, Nat.zero_le _, Lib.hid rfl, rfl⟩
  case round =>
    obtain ⟨k, rfl, hk, HP, hW⟩ := hrel
    have hW' := hW.symm
    subst hW'
    by_cases hlt : k < gl.length
    · obtain ⟨ad, rfl, hadb, e0, e1⟩ := HL4.out.mb k hlt
      have hkl : (k : Int) < (gl.length : Int) := by omega
      have hk5 : k < 5 := by have := HN.out; omega
      have HS := Lib.hid (inc_step (id := id) hlt)
      obtain ⟨m, hm⟩ : ∃ m, m = mAt gl k := ⟨_, rfl⟩
      rw [← hm] at HS e0 e1
      clear hm
      obtain ⟨mi, mn⟩ := m
      simp only at e0 e1
      by_cases g1 : mi = id
      · have HT := Lib.hid (show incL gl id = mn by rw [HP.out, HS.out, if_pos g1])
        have g1' : (mi == id) = true := by simpa using g1
        clear g1
        go_wp2_with fail
        go_ret
        exact ⟨ret_int HT.out.symm, HB4.out⟩
      · have HT := Lib.hid (show incL gl id = incL (gl.drop (k + 1)) id by rw [HP.out, HS.out, if_neg g1])
        have g1' : (mi == id) = false := by simpa using g1
        clear g1
        go_wp2_with fail
        go_roundw
        case rel => exact ⟨k + 1, by go_num, by omega, HT, rfl⟩
        case measure => simp [intOf]; omega
    · have hk' : k = gl.length := by omega
      have hkl : ¬ (k : Int) < (gl.length : Int) := by omega
      have HT := Lib.hid (show incL gl id = 0 by rw [HP.out, hk', List.drop_length]; rfl)
      clear hk'
      go_wp2_with fail
      go_ret
      exact ⟨ret_int HT.out.symm, HB4.out⟩
def IdRel2 (l : List Mb) (w4 : World) (b B : Nat) (h : Obj) (o i : Value) (W : World) : Prop := ∃ (k : Nat) (D : Option Addr) (d : Nat), i = .int .i64 k ∧ o = .slice D k d ∧ k ≤ l.length ∧ Hid (Below w4.heap.size w4 W) ∧ Hid (W.ownsRow B 3 1 (.slice D k d) k (vc (idsL (l.take k))))
set_option maxHeartbeats 2000000 in
set_option maxRecDepth 20000 in
theorem rids_any (num : Int) (A : Option Addr) (c : Nat) (l : List Mb) (w : World) (hA : Lies w w.heap.size 2 A l.length (mc l)) (hn : l.length ≤ 1000000) :
    Calls Try.prog 22 #[.agg #[.int .i64 num, .slice A l.length c]] w (NPost (idsL (good (num, l)).2) w) := by
  obtain ⟨iv, hiv, hzv, hzsv, hzbv⟩ := info_parts (show (Try.prog.info? 3).map (fun i => (i.zero, i.size, i.bytes)) = some (some (.int .i64 0), 1, 8) by kernel_rfl)
  have IV := Lib.hid hiv
  have ZV := Lib.hid hzv
  have SV := Lib.hid hzsv
  have BV := Lib.hid hzbv
  clear hiv hzv hzsv hzbv
  have HB := Lib.hid (below_alloc w (.cells #[.int .i64 num, .slice A l.length c] 30))
  have h0 := World.alloc_heap_new w (.cells #[.int .i64 num, .slice A l.length c] 30)
  have CG := Lib.hid (fun (W : World) (hb : Below w.heap.size w W) => good_any num A c l w.heap.size W hb.size (hA.below hb) hn)
  obtain ⟨g, hg⟩ : ∃ g, g = good (num, l) := ⟨_, rfl⟩
  have HR := Lib.hid (show rightV g = true by rw [hg]; exact good_right _)
  rw [← hg] at CG ⊢
  clear hA hg
  obtain ⟨gn, gl⟩ := g
  have HN := Lib.hid (right_num HR.out)
  have d0 := c2_0 h0
  have d1 := c2_1 h0
  have HZ1 := Lib.hid (show (w.alloc (.cells #[.int .i64 num, .slice A l.length c] 30)).heap.size = w.heap.size + 1 by simp)
  go_enter Try.func22, Try.ntmps22
  go_upto_region 1 with fail
  generalize w.alloc (.cells #[.int .i64 num, .slice A l.length c] 30) = w1 at HB h0 d0 d1 HZ1 ⊢
  go_wp2_with fail
  refine (CG.out _ HB.out).mono ?_
  rintro e w3 ⟨A1, c1, rfl, ho3, hb3⟩
  simp only at ho3
  have h3 := (hb3.block w.heap.size (by rw [HZ1.out]; omega)).trans h0
  clear d0 d1 h0
  have d0 := c2_0 h3
  have d1 := c2_1 h3
  have f0 := unfrozen h3 0
  have f1 := unfrozen h3 1
  have H4 := Lib.hid (set2_at h3 (.int .i64 gn) (.slice A1 gl.length c1))
  have HB4 := Lib.hid (below_set2 (HB.out.trans (hb3.mono HB.out.size)) (Nat.le_refl w.heap.size) (.int .i64 gn) (.slice A1 gl.length c1))
  have HL4 := Lib.hid (show Lies ((w3.setCell ⟨w.heap.size, 0, none⟩ (.int .i64 gn)).setCell ⟨w.heap.size, 1, none⟩ (.slice A1 gl.length c1)) w.heap.size 2 A1 gl.length (mc gl) from lies_set2 (ho3.keep (fun p hp => hb3.cell (by rw [HZ1.out]; omega))) (Nat.le_refl _) _ _)
  clear ho3 hb3 h3
  go_upto_region 2 with fail
  generalize (w3.setCell ⟨w.heap.size, 0, none⟩ (.int .i64 gn)).setCell ⟨w.heap.size, 1, none⟩ (.slice A1 gl.length c1) = w4 at H4 HB4 HL4 ⊢
  clear d0 d1 f0 f1
  have d1 := c2_1 H4.out
  have D1 := Lib.hid (show ∀ W : World, Below w4.heap.size w4 W → W.cell? ⟨w.heap.size, 1, none⟩ = some (.slice A1 gl.length c1) from fun W hb => (hb.cell (p := ⟨w.heap.size, 1, none⟩) (Array.getElem?_eq_some_iff.1 H4.out).1).trans (c2_1 H4.out))
  clear d1
  go_wp2_with fail
  go_loopw [3, 4] (fun o i W => IdRel2 gl w4 0 w4.heap.size (.cells #[] 0) o i W) (fun _ i W => gl.length - (intOf i).toNat)
  case atStart => exact ⟨0, none, 0, rfl, rfl, Nat.zero_le _, Lib.hid (Below.refl _ _), Lib.hid (World.ownsRow_nil _ _ _ _)⟩
  case round =>
    obtain ⟨k, D, d, rfl, rfl, hk, HW, HO⟩ := hrel
    have d1 := D1.out wr HW.out
    have HZW := Lib.hid (show w.heap.size ≤ w4.heap.size from HB4.out.size)
    by_cases hlt : k < gl.length
    · obtain ⟨ad, rfl, hadb, e0, e1⟩ := (HL4.out.below (HW.out.mono HZW.out)).mb k hlt
      have hkl : (k : Int) < (gl.length : Int) := by omega
      have HT := Lib.hid (show idsL (gl.take (k + 1)) = idsL (gl.take k) ++ [(mAt gl k).1] by rw [mtake_at gl k hlt, ids_snoc])
      have hk5 : k ≤ 5 := by have := HN.out; omega
      obtain ⟨m, hm⟩ : ∃ m, m = mAt gl k := ⟨_, rfl⟩
      rw [← hm] at HT e0 e1
      clear hm
      obtain ⟨id, inc⟩ := m
      simp only at e0 e1
      have HO5 := Lib.hid (own_next HO.out (below_alloc wr (.cells #[.int .i64 id] 3)))
      have HL5 := Lib.hid (lies_cells wr (vc [id]) 3 1 1 rfl)
      have HB5 := Lib.hid (HW.out.trans ((below_alloc wr (.cells #[.int .i64 id] 3)).mono HW.out.size))
      go_wp2_with (at_builtin; go_must (refine wpList_app2 _ rfl (.tmp 14) (.tmp 21) 46 rfl w4.heap.size 3 iv _ 1 8 Try.underlying46 IV.out ZV.out SV.out BV.out rfl (by decide) D k d (vc (idsL (gl.take k))) rfl HO5.out (wr.heap.size + 1) (some ⟨wr.heap.size, 0, none⟩) 1 1 (vc [id]) rfl HL5.out (vc_one _) (k + 1) (vc (idsL (gl.take k)) ++ vc [id]) rfl rfl (by unfold maxLen; omega) (by omega) HB5.out.size ?_))
      intro A9 c9 w9 ho9 hb9 hg9
      have HO9 := Lib.hid ho9
      have HB9 := Lib.hid (HB5.out.trans hb9)
      clear ho9 hb9 hg9 d1
      go_wp2_with fail
      go_roundw
      case rel => exact ⟨k + 1, A9, c9, by go_num, rfl, by omega, HB9, by rw [HT.out, vc_app]; exact HO9⟩
      case measure => simp [intOf]; omega
    · have hk' : k = gl.length := by omega
      subst hk'
      have HT := Lib.hid (show gl.take gl.length = gl from List.take_length)
      rw [HT.out] at HO
      go_wp2_with fail
      go_ret
      exact np_of (ids_len gl) (own_low HO.out HZW.out) (HB4.out.trans (HW.out.mono HZW.out))
end Go.Proofs.Ytemcmhpfpfmgdaa
