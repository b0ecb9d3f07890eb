import Derived.Test.YtdpmlpclhojcjaaDi
/-
  The contracts of As, great and wide. No condition but that there are not too many files.
-/
namespace Go.Proofs.Ytdpmlpclhojcjaa
open Go.ChangeShapes Go.WideShapes Go.ChangeAt Go.RowKit
set_option linter.unusedVariables false

def AsRel (ls : List Fe) (w1 : World) (o i : Value) (W : World) : Prop := ∃ (k : Nat) (D : Option Addr) (d : Nat) (X : List Fe), i = .int .i64 k ∧ o = .slice D X.length d ∧ k ≤ ls.length ∧ X.length = k ∧ Hid (xs X = (xs ls).take k) ∧ Hid (Fo w1 D d X W)
set_option maxHeartbeats 4000000 in
theorem as_any (A : Option Addr) (c : Nat) (ls : List Fe) (w : World) (hA : Fls w w.heap.size A c ls) (hn : ls.length ≤ 100000) :
    Calls Try.prog 11 #[.agg #[.slice A ls.length c]] w (FlPost (xs ls) w) := by
  obtain ⟨iv, hiv, hzv, hzsv, hzbv⟩ := info_parts (show (Try.prog.info? 50).map (fun i => (i.zero, i.size, i.bytes)) = some (some (.agg #[.string ⟨#[]⟩, .slice none 0 0, .int .i64 0]), 3, 48) by kernel_rfl)
  have IV := Lib.hid hiv
  have ZV := Lib.hid hzv
  have SV := Lib.hid hzsv
  have BV := Lib.hid hzbv
  clear hiv hzv hzsv hzbv
  have HB0 := Lib.hid (below_alloc w (.cells #[.slice A ls.length c] 24))
  have d0 : (w.alloc (.cells #[.slice A ls.length c] 24)).cell? ⟨w.heap.size, 0, none⟩ = some (.slice A ls.length c) := by simp [go_sem]
  have HSZ := Lib.hid (show w.heap.size < (w.alloc (.cells #[.slice A ls.length c] 24)).heap.size by simp)
  have HA := Lib.hid (hA.next HB0.out)
  clear hA
  go_enter Try.func11, Try.ntmps11
  go_upto_region 1 with fail
  generalize w.alloc (.cells #[.slice A ls.length c] 24) = w1 at d0 HB0 HSZ HA ⊢
  have CB := Lib.hid (show ∀ W : World, Below w1.heap.size w1 W → W.cell? ⟨w.heap.size, 0, none⟩ = some (.slice A ls.length c) from fun W hb => (hb.cell (p := ⟨w.heap.size, 0, none⟩) HSZ.out).trans d0)
  clear d0
  go_wp2_with fail
  go_loopw [3, 4, 5] (fun o i _ W => AsRel ls w1 o i W) (fun o i _ W => ls.length - (intOf i).toNat)
  case atStart => exact ⟨0, none, 0, [], rfl, rfl, Nat.zero_le _, rfl, Lib.hid rfl, Lib.hid (Fo.no w1)⟩
  case round =>
    obtain ⟨k, D, d, X, rfl, rfl, hk, hX, HP, HO⟩ := hrel
    have d0 := CB.out wr HO.out.bl
    by_cases hlt : k < ls.length
    · obtain ⟨ad, rfl, hadb, e0, e1, e2⟩ := (HA.out.L.below HO.out.bl).fe k hlt
      have hkl : (k : Int) < (ls.length : Int) := by omega
      have HXK := Lib.hid hX
      have hX1 : X.length ≤ 100000 := by omega
      clear hX
      have HE := Lib.hid (HA.out.at k hlt)
      have HD := Lib.hid (show xs (X ++ [fAt ls k]) = (xs ls).take (k + 1) by rw [xs_app, HP.out, xs_snoc_take hlt]; rfl)
      generalize fAt ls k = m at *
      obtain ⟨nm, dat, sf, DA, dc⟩ := m
      simp only at e0 e1 e2
      have HBA := Lib.hid (below_alloc wr (.cells #[.string nm, .slice DA dat.length dc, .int .i64 sf] 53))
      have f0 : (wr.alloc (.cells #[.string nm, .slice DA dat.length dc, .int .i64 sf] 53)).cell? ⟨wr.heap.size, 0, none⟩ = some (.string nm) := by simp [go_sem]
      have f1 : (wr.alloc (.cells #[.string nm, .slice DA dat.length dc, .int .i64 sf] 53)).cell? ⟨wr.heap.size, 1, none⟩ = some (.slice DA dat.length dc) := by simp [go_sem]
      have f2 : (wr.alloc (.cells #[.string nm, .slice DA dat.length dc, .int .i64 sf] 53)).cell? ⟨wr.heap.size, 2, none⟩ = some (.int .i64 sf) := by simp [go_sem]
      have HO4 := Lib.hid (HO.out.next HBA.out)
      go_upto_region 6 with fail
      clear e0 e1 e2 d0
      generalize wr.alloc (.cells #[.string nm, .slice DA dat.length dc, .int .i64 sf] 53) = w4 at HBA f0 f1 f2 HO4 ⊢
      have HO9 := Lib.hid (own_next HO4.out.ow (below_alloc w4 (.cells #[.string nm, .slice DA dat.length dc, .int .i64 sf] 50)))
      have HL9 := Lib.hid (lies_cells w4 (fc [⟨nm, dat, sf, DA, dc⟩]) 50 1 3 rfl)
      have HB9 := Lib.hid (HO4.out.bl.trans ((below_alloc w4 (.cells #[.string nm, .slice DA dat.length dc, .int .i64 sf] 50)).mono HO4.out.bl.size))
      go_wp2_with (at_builtin; go_must (refine wpList_app2 _ rfl (.tmp 18) (.tmp 26) 28 rfl w1.heap.size 50 iv _ 3 48 Try.underlying28 IV.out ZV.out SV.out BV.out rfl (by decide) D X.length d (fc X) rfl HO9.out (w4.heap.size + 1) (some ⟨w4.heap.size, 0, none⟩) 1 1 (fc [⟨nm, dat, sf, DA, dc⟩]) rfl HL9.out (fc_one _) (X.length + 1) (fc X ++ fc [⟨nm, dat, sf, DA, dc⟩]) rfl rfl (by unfold maxLen; omega) (by omega) HB9.out.size ?_))
      intro A9 c9 w9 ho9 hb9 hg9
      have HF9 := Lib.hid (Fo.snoc rfl (HB9.out.trans hb9) ho9 HO4.out.el HE.out)
      clear ho9 hb9 hg9
      go_wp2_with fail
      go_roundw
      case rel => exact ⟨k + 1, A9, c9, _, by go_num, by rw [snoc_len], by omega, by rw [snoc_len, HXK.out], HD, HF9⟩
      case measure => simp [intOf]; omega
    · have hk' : k = ls.length := by omega
      have HQ := Lib.hid (show xs X = xs ls by rw [HP.out, List.take_of_length_le (by rw [xs_len]; omega)])
      have hkl : ¬ (k : Int) < (ls.length : Int) := by omega
      have HXK := Lib.hid hX
      clear hk' hX
      go_wp2_with fail
      go_ret
      exact ⟨HB0.out.trans (HO.out.bl.mono HB0.out.size), D, d, X, rfl, HO.out.ls, HQ.out⟩
/-- More than is looked at. -/
def grtE (e : Fe) : Bool := decide (30000 < e.dat.length) || decide (100 < e.nm.size)
def grtB (ls : List Fe) : Bool := decide (100 < ls.length) || ls.any grtE
theorem grt_no {ls : List Fe} (h : grtB ls = false) : ls.length ≤ 100 ∧ ∀ e ∈ ls, e.dat.length ≤ 30000 ∧ e.nm.size ≤ 100 := by
  unfold grtB at h
  rw [Bool.or_eq_false_iff, decide_eq_false_iff_not, List.any_eq_false] at h
  refine ⟨by omega, fun e he => ?_⟩
  have := h.2 e he
  unfold grtE at this
  simp at this
  omega
def GrRel (ls : List Fe) (w1 : World) (i : Value) (W : World) : Prop := ∃ k : Nat, i = .int .i64 k ∧ k ≤ ls.length ∧ Hid (ls.any grtE = (ls.drop k).any grtE) ∧ W = w1
set_option maxHeartbeats 4000000 in
theorem great_any (A : Option Addr) (c : Nat) (ls : List Fe) (w : World) (hA : Lies w w.heap.size 3 A ls.length (fc ls)) :
    Calls Try.prog 9 #[.agg #[.slice A ls.length c]] w fun e w' => e = .returned (.bool (grtB ls)) ∧ Below w.heap.size w w' := by
  have HB0 := Lib.hid (below_alloc w (.cells #[.slice A ls.length c] 24))
  have d0 : (w.alloc (.cells #[.slice A ls.length c] 24)).cell? ⟨w.heap.size, 0, none⟩ = some (.slice A ls.length c) := by simp [go_sem]
  have HA := Lib.hid (hA.next HB0.out)
  clear hA
  by_cases h1 : 100 < ls.length
  · have HT := Lib.hid (show grtB ls = true by unfold grtB; rw [decide_eq_true h1]; rfl)
    have h1i : (100 : Int) < (ls.length : Int) := by omega
    go_enter Try.func9, Try.ntmps9
    go_wp2_with fail
    go_ret
    exact ⟨ret_bool HT.out.symm, HB0.out⟩
  · have HT := Lib.hid (show grtB ls = ls.any grtE by unfold grtB; rw [decide_eq_false h1]; rfl)
    have h1i : ¬ (100 : Int) < (ls.length : Int) := by omega
    go_enter Try.func9, Try.ntmps9
    go_upto_region 1 with fail
    generalize w.alloc (.cells #[.slice A ls.length c] 24) = w1 at d0 HB0 HA ⊢
    go_wp2_with fail
    go_loopw [3] (fun i W => GrRel ls w1 i W) (fun i W => ls.length - (intOf i).toNat)
    case atStart => exact ⟨0, rfl, Nat.zero_le _, Lib.hid rfl, rfl⟩
    case round =>
      obtain ⟨k, rfl, hk, HP, rfl⟩ := hrel
      by_cases hlt : k < ls.length
      · obtain ⟨ad, rfl, hadb, e0, e1, e2⟩ := HA.out.fe k hlt
        have hkl : (k : Int) < (ls.length : Int) := by omega
        have HD := Lib.hid (show (ls.drop k).any grtE = (grtE (fAt ls k) || (ls.drop (k + 1)).any grtE) by rw [fdrop_at ls k hlt, List.any_cons])
        generalize fAt ls k = m at *
        obtain ⟨nm, dat, sf, DA, dc⟩ := m
        simp only at e0 e1 e2
        by_cases g1 : 30000 < dat.length
        · have HQ := Lib.hid (show grtB ls = true by rw [HT.out, HP.out, HD.out]; unfold grtE; rw [decide_eq_true g1]; rfl)
          have g1i : (30000 : Int) < (dat.length : Int) := by omega
          go_wp2_with fail
          go_ret
          exact ⟨ret_bool HQ.out.symm, HB0.out⟩
        · have g1i : ¬ (30000 : Int) < (dat.length : Int) := by omega
          by_cases g2 : 100 < nm.size
          · have HQ := Lib.hid (show grtB ls = true by rw [HT.out, HP.out, HD.out]; unfold grtE; rw [decide_eq_true g2]; simp)
            have g2i : (100 : Int) < (nm.size : Int) := by omega
            go_wp2_with fail
            go_ret
            exact ⟨ret_bool HQ.out.symm, HB0.out⟩
          · have HQ := Lib.hid (show ls.any grtE = (ls.drop (k + 1)).any grtE by rw [HP.out, HD.out]; unfold grtE; rw [decide_eq_false g1, decide_eq_false g2]; rfl)
            have g2i : ¬ (100 : Int) < (nm.size : Int) := by omega
            go_wp2_with fail
            go_roundw
            case rel => exact ⟨k + 1, by go_num, by omega, HQ, rfl⟩
            case measure => simp [intOf]; omega
      · have hk' : k = ls.length := by omega
        subst hk'
        have HQ := Lib.hid (show grtB ls = false by rw [HT.out, HP.out, List.drop_length]; rfl)
        go_wp2_with fail
        go_ret
        exact ⟨ret_bool HQ.out.symm, HB0.out⟩
def widB (nm : ByteArray) (b : List UInt8) (l : List Int) : Bool := decide (100 < nm.size) || decide (30000 < b.length) || decide (100 < l.length)
theorem wid_no {nm : ByteArray} {b : List UInt8} {l : List Int} (h : widB nm b l = false) : nm.size ≤ 100 ∧ b.length ≤ 30000 ∧ l.length ≤ 100 := by
  unfold widB at h
  rw [Bool.or_eq_false_iff, Bool.or_eq_false_iff, decide_eq_false_iff_not, decide_eq_false_iff_not, decide_eq_false_iff_not] at h
  omega
set_option maxHeartbeats 1000000 in
theorem wide_any (kd n : Int) (nm : ByteArray) (BA : Option Addr) (bcap : Nat) (b : List UInt8) (KA : Option Addr) (kc : Nat) (l : List Int) (w : World) :
    Calls Try.prog 14 #[.agg #[.int .i64 kd, .int .i64 n, .string nm, .slice BA b.length bcap, .slice KA l.length kc]] w fun e w' => e = .returned (.bool (widB nm b l)) ∧ Below w.heap.size w w' := by
  have HB := Lib.hid (below_alloc w (.cells #[.int .i64 kd, .int .i64 n, .string nm, .slice BA b.length bcap, .slice KA l.length kc] 34))
  by_cases h1 : 100 < nm.size
  · have HW := Lib.hid (show widB nm b l = true by unfold widB; rw [decide_eq_true h1]; rfl)
    have h1' : (100 : Int) < (nm.size : Int) := by omega
    go_enter Try.func14, Try.ntmps14
    go_wp2_with fail
    go_ret
    exact ⟨ret_bool HW.out.symm, HB.out⟩
  · have h1' : ¬ (100 : Int) < (nm.size : Int) := by omega
    by_cases h2 : 30000 < b.length
    · have HW := Lib.hid (show widB nm b l = true by unfold widB; rw [decide_eq_true h2]; simp)
      have h2' : (30000 : Int) < (b.length : Int) := by omega
      go_enter Try.func14, Try.ntmps14
      go_wp2_with fail
      go_ret
      exact ⟨ret_bool HW.out.symm, HB.out⟩
    · have h2' : ¬ (30000 : Int) < (b.length : Int) := by omega
      by_cases h3 : 100 < l.length
      · have HW := Lib.hid (show widB nm b l = true by unfold widB; rw [decide_eq_true h3]; simp)
        have h3' : (100 : Int) < (l.length : Int) := by omega
        go_enter Try.func14, Try.ntmps14
        go_wp2_with fail
        go_ret
        exact ⟨ret_bool HW.out.symm, HB.out⟩
      · have HW := Lib.hid (show widB nm b l = false by unfold widB; rw [decide_eq_false h1, decide_eq_false h2, decide_eq_false h3]; rfl)
        have h3' : ¬ (100 : Int) < (l.length : Int) := by omega
        go_enter Try.func14, Try.ntmps14
        go_wp2_with fail
        go_ret
        exact ⟨ret_bool HW.out.symm, HB.out⟩
end Go.Proofs.Ytdpmlpclhojcjaa
