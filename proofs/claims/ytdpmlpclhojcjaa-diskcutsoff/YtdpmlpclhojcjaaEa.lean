import Derived.Test.YtdpmlpclhojcjaaDj
import Derived.BigQuiet
/-
  The contracts of the program's isName, mayBe, Right, taken and copied. No condition but that there are not too many files and bytes.
-/
namespace Go.Proofs.Ytdpmlpclhojcjaa
open Go.ChangeShapes Go.WideShapes Go.ChangeAt Go.RowKit
set_option linter.unusedVariables false

/-- Not too many files and bytes. -/
structure Mod (ls : List Fe) : Prop where
  n : ls.length ≤ 1000
  d : ∀ e ∈ ls, e.dat.length ≤ 100000 ∧ e.nm.size ≤ 100000
theorem mod_good {ls : List Fe} (h : Good (xs ls)) : Mod ls := by
  refine ⟨by have := h.len; rw [xs_len] at this; omega, fun e he => ?_⟩
  obtain ⟨h1, h2, h3, _⟩ := h.ok e.x (List.mem_map_of_mem he)
  have := str_len e.nm
  simp only [Fe.x] at h2 h3
  omega
theorem mod_few {ls : List Fe} (h : grtB ls = false) : Mod ls := by
  obtain ⟨h1, h2⟩ := grt_no h
  exact ⟨by omega, fun e he => by have := h2 e he; omega⟩
/-- May a file be called so? -/
def nmB (s : ByteArray) : Bool := decide (1 ≤ s.size ∧ s.size ≤ 16)
theorem isname_any (s : ByteArray) (w : World) (hs : s.size ≤ 100000) : Calls Try.prog 39 #[.string s] w fun e w' => e = .returned (.bool (nmB s)) ∧ w = w' := by
  by_cases g1 : 1 ≤ s.size
  · by_cases g2 : s.size ≤ 16
    · have HT := Lib.hid (show nmB s = true from decide_eq_true ⟨g1, g2⟩)
      have g1i : (1 : Int) ≤ (s.size : Int) := by omega
      have g2i : (s.size : Int) ≤ 16 := by omega
      go_enter Try.func39, Try.ntmps39
      go_wp2_with fail
      go_ret
      exact ⟨ret_bool HT.out.symm, rfl⟩
    · have HT := Lib.hid (show nmB s = false from decide_eq_false (fun h => g2 h.2))
      have g1i : (1 : Int) ≤ (s.size : Int) := by omega
      have g2i : decide ((s.size : Int) ≤ 16) = false := decide_eq_false (by omega)
      have g2j : decide (s.size ≤ 16) = false := decide_eq_false g2
      clear g2
      go_enter Try.func39, Try.ntmps39
      go_wp2_with fail
      go_ret
      exact ⟨ret_bool HT.out.symm, rfl⟩
  · have HT := Lib.hid (show nmB s = false from decide_eq_false (fun h => g1 h.1))
    have g1i : decide ((1 : Int) ≤ (s.size : Int)) = false := decide_eq_false (by omega)
    have g1j : decide (1 ≤ s.size) = false := decide_eq_false g1
    clear g1
    go_enter Try.func39, Try.ntmps39
    go_wp2_with fail
    go_ret
    exact ⟨ret_bool HT.out.symm, rfl⟩
/-- May there be such a file? -/
def okB (f : Fl) : Bool := decide (okF f)
theorem okB_not {nm : ByteArray} {dat : List UInt8} {sf : Int} {A : Option Addr} {c : Nat} (h : ¬ (nmB nm = true ∧ dat.length ≤ 20000 ∧ 0 ≤ sf ∧ sf ≤ (dat.length : Int))) : okB (Fe.x ⟨nm, dat, sf, A, c⟩) = false := by
  refine decide_eq_false fun g => h ?_
  obtain ⟨h1, h2, h3, h4, h5⟩ := okF_to g
  exact ⟨decide_eq_true ⟨h1, h2⟩, h3, h4, h5⟩
theorem okB_yes {nm : ByteArray} {dat : List UInt8} {sf : Int} {A : Option Addr} {c : Nat} (h1 : nmB nm = true) (h3 : dat.length ≤ 20000) (h4 : 0 ≤ sf) (h5 : sf ≤ (dat.length : Int)) : okB (Fe.x ⟨nm, dat, sf, A, c⟩) = true := by
  have := of_decide_eq_true h1
  exact decide_eq_true (okF_of this.1 this.2 h3 h4 h5)
set_option maxHeartbeats 2000000 in
theorem maybe_any (nm : ByteArray) (dat : List UInt8) (sf : Int) (A : Option Addr) (c : Nat) (w : World) (hs : nm.size ≤ 100000) (hd : dat.length ≤ 100000) :
    Calls Try.prog 28 #[.agg #[.string nm, .slice A dat.length c, .int .i64 sf]] w fun e w' => e = .returned (.bool (okB (Fe.x ⟨nm, dat, sf, A, c⟩))) ∧ Below w.heap.size w w' := by
  have HB := Lib.hid (below_alloc w (.cells #[.string nm, .slice A dat.length c, .int .i64 sf] 53))
  have f0 : (w.alloc (.cells #[.string nm, .slice A dat.length c, .int .i64 sf] 53)).cell? ⟨w.heap.size, 0, none⟩ = some (.string nm) := by simp [go_sem]
  have f1 : (w.alloc (.cells #[.string nm, .slice A dat.length c, .int .i64 sf] 53)).cell? ⟨w.heap.size, 1, none⟩ = some (.slice A dat.length c) := by simp [go_sem]
  have f2 : (w.alloc (.cells #[.string nm, .slice A dat.length c, .int .i64 sf] 53)).cell? ⟨w.heap.size, 2, none⟩ = some (.int .i64 sf) := by simp [go_sem]
  have HY := Lib.hid (fun h1 => @okB_yes nm dat sf A c h1)
  have HN := Lib.hid (@okB_not nm dat sf A c)
  generalize okB (Fe.x ⟨nm, dat, sf, A, c⟩) = t at *
  go_enter Try.func28, Try.ntmps28
  go_upto_region 1 with fail
  generalize w.alloc (.cells #[.string nm, .slice A dat.length c, .int .i64 sf] 53) = w1 at HB f0 f1 f2 ⊢
  cases h1 : nmB nm with
  | false =>
    have HT := Lib.hid (HN.out (fun h => by rw [h1] at h; cases h.1))
    have H1 := Lib.hid h1
    clear h1
    go_wp2_with fail
    refine (isname_any nm _ hs).mono ?_
    rintro e w2 ⟨rfl, rfl⟩
    rw [H1.out]
    go_wp2_with fail
    go_ret
    exact ⟨ret_bool HT.out.symm, HB.out⟩
  | true =>
    have H1 := Lib.hid h1
    have HY := Lib.hid (HY.out h1)
    clear h1
    by_cases g3 : dat.length ≤ 20000
    · have g3i : (dat.length : Int) ≤ 20000 := by omega
      by_cases g4 : 0 ≤ sf
      · by_cases g5 : sf ≤ (dat.length : Int)
        · have HT := Lib.hid (HY.out g3 g4 g5)
          go_wp2_with fail
          refine (isname_any nm _ hs).mono ?_
          rintro e w2 ⟨rfl, rfl⟩
          rw [H1.out]
          go_wp2_with fail
          go_ret
          exact ⟨ret_bool HT.out.symm, HB.out⟩
        · have HT := Lib.hid (HN.out (fun h => g5 h.2.2.2))
          have g5i : decide (sf ≤ (dat.length : Int)) = false := decide_eq_false g5
          clear g5
          go_wp2_with fail
          refine (isname_any nm _ hs).mono ?_
          rintro e w2 ⟨rfl, rfl⟩
          rw [H1.out]
          go_wp2_with fail
          go_ret
          exact ⟨ret_bool HT.out.symm, HB.out⟩
      · have HT := Lib.hid (HN.out (fun h => g4 h.2.2.1))
        have g4i : decide (0 ≤ sf) = false := decide_eq_false g4
        clear g4
        go_wp2_with fail
        refine (isname_any nm _ hs).mono ?_
        rintro e w2 ⟨rfl, rfl⟩
        rw [H1.out]
        go_wp2_with fail
        go_ret
        exact ⟨ret_bool HT.out.symm, HB.out⟩
    · have HT := Lib.hid (HN.out (fun h => g3 h.2.1))
      have g3i : decide ((dat.length : Int) ≤ 20000) = false := decide_eq_false (by omega)
      have g3j : decide (dat.length ≤ 20000) = false := decide_eq_false g3
      clear g3
      go_wp2_with fail
      refine (isname_any nm _ hs).mono ?_
      rintro e w2 ⟨rfl, rfl⟩
      rw [H1.out]
      go_wp2_with fail
      go_ret
      exact ⟨ret_bool HT.out.symm, HB.out⟩
/-- Bytes of the call's own. -/
def OwnB (base : Nat) (A : Option Addr) (c : Nat) (b : List UInt8) (w : World) : Prop := w.ownsRow base 5 1 (.slice A b.length c) b.length (bc b)
set_option maxHeartbeats 1000000 in
theorem copied_any (A : Option Addr) (c : Nat) (b : List UInt8) (w : World) (hA : Lies w w.heap.size 1 A b.length (bc b)) (hb : b.length ≤ 100000) :
    Calls Try.prog 36 #[.slice A b.length c] w fun e w' => ∃ G gc, e = .returned (.slice G b.length gc) ∧ OwnB w.heap.size G gc b w' ∧ Below w.heap.size w w' := by
  obtain ⟨iv, hiv, hzv, hzsv, hzbv⟩ := info_parts (show (Try.prog.info? 5).map (fun i => (i.zero, i.size, i.bytes)) = some (some (.int .u8 0), 1, 1) by kernel_rfl)
  have IV := Lib.hid hiv
  have ZV := Lib.hid hzv
  have SV := Lib.hid hzsv
  have BV := Lib.hid hzbv
  have HA := Lib.hid hA
  clear hiv hzv hzsv hzbv hA
  go_enter Try.func36, Try.ntmps36
  go_wp2_with (at_builtin; go_must (refine wpList_app2 _ rfl _ _ 31 rfl w.heap.size 5 iv _ 1 1 Try.underlying31 IV.out ZV.out SV.out BV.out rfl (by decide) none 0 0 [] rfl (World.ownsRow_nil _ _ _ _) w.heap.size A b.length c (bc b) rfl HA.out (bc_one _) b.length (bc b) (by omega) rfl (by unfold maxLen; omega) (by omega) (Nat.le_refl _) ?_))
  intro A9 c9 w9 ho9 hb9 hg9
  have HO := Lib.hid ho9
  have HB := Lib.hid hb9
  clear ho9 hb9 hg9
  go_wp2_with fail
  go_ret
  exact ⟨A9, c9, rfl, HO.out, HB.out⟩
end Go.Proofs.Ytdpmlpclhojcjaa
