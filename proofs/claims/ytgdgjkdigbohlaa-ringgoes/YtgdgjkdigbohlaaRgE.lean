import Derived.Test.YtgdgjkdigbohlaaRgD
import Derived.Deep.OwnRows
/-
  The contracts of ring.Owner, Owners and of the document's own Owner, Owners. No condition but that the lists have at most a million numbers.
-/
namespace Go.Proofs.Ytgdgjkdigbohlaa
open Go.ChangeShapes Go.WideShapes Go.ChangeAt Go.RowKit
set_option linter.unusedVariables false

def okO (ms : List Int) (p : Int) : Bool := rgt ms && ptB p
def ownR (ms : List Int) (p : Int) : Int := if okO ms p then ownI ms p else 0
def ownE (ms : List Int) (p : Int) : Int := if okO ms p then 0 else 1
theorem okO_no {ms : List Int} {p : Int} (h : okO ms p = false) : ownR ms p = 0 ∧ ownE ms p = 1 := by unfold ownR ownE; rw [h]; exact ⟨rfl, rfl⟩
theorem okO_yes {ms : List Int} {p : Int} (h : okO ms p = true) : ownR ms p = ownI ms p ∧ ownE ms p = 0 := by unfold ownR ownE; rw [h]; exact ⟨rfl, rfl⟩
theorem field_w (a b : Int) (w : World) : (Instr.field 49 (.agg #[.int .u32 a, .int .i64 b]) 1).run Try.prog w = .ok (.int .i64 b) w := by kernel_rfl
theorem ret_two {a b c d : Int} (h1 : a = c) (h2 : b = d) : Ending.returned (.tuple #[.int .i64 a, .int .i64 b]) = .returned (.tuple #[.int .i64 c, .int .i64 d]) := by rw [h1, h2]
set_option maxHeartbeats 1000000 in
theorem owner_any (A : Option Addr) (c : Nat) (ms : List Int) (p : Int) (w : World) (hA : Lies w w.heap.size 1 A ms.length (vc ms)) (hn : ms.length ≤ 1000000) :
    Calls Try.prog 21 #[.slice A ms.length c, .int .i64 p] w fun e w' => e = .returned (.tuple #[.int .i64 (ownR ms p), .int .i64 (ownE ms p)]) ∧ Below w.heap.size w w' := by
  have HA := Lib.hid hA
  clear hA
  cases hr : rgt ms with
  | false =>
    have HT := Lib.hid (okO_no (show okO ms p = false by unfold okO; rw [hr]; rfl))
    have HR := Lib.hid hr
    clear hr
    go_enter Try.func21, Try.ntmps21
    go_wp2_with fail
    refine (right_any A c ms _ HA.out hn).mono ?_
    rintro e w1 ⟨rfl, rfl⟩
    rw [HR.out]
    go_wp2_with fail
    go_ret2
    exact ⟨ret_two HT.out.1.symm HT.out.2.symm, Below.refl _ _⟩
  | true =>
    have HR := Lib.hid hr
    have hfd := field_w
    clear hr
    by_cases hp : 0 ≤ p ∧ p < 6
    · have HT := Lib.hid (okO_yes (show okO ms p = true by unfold okO; rw [HR.out, ptB_yes hp]; rfl))
      have HP := Lib.hid (ptB_yes hp)
      have HL := Lib.hid (rgt_len HR.out)
      have HSL := Lib.hid (show (spL ms).length ≤ 1000 by rw [spL_len]; have := HL.out; omega)
      clear hp
      go_enter Try.func21, Try.ntmps21
      go_wp2_with fail
      refine (right_any A c ms _ HA.out hn).mono ?_
      rintro e w1 ⟨rfl, rfl⟩
      rw [HR.out]
      go_wp2_with fail
      refine (isp_any p _).mono ?_
      rintro e w1 ⟨rfl, rfl⟩
      rw [HP.out]
      go_wp2_with fail
      refine (spots_any A c ms _ HA.out HL.out.2).mono ?_
      rintro e w2 ⟨D, d, rfl, ho2, hb2⟩
      have HL2 := Lib.hid (Lies.of_own ho2)
      have HB2 := Lib.hid hb2
      clear ho2 hb2
      go_wp2_with fail
      refine (key_any p _).mono ?_
      rintro e w1 ⟨rfl, rfl⟩
      go_wp2_with fail
      refine (next_any D d (spL ms) (keyI p) _ HL2.out HSL.out).mono ?_
      rintro e w3 ⟨rfl, hb3⟩
      have HB3 := Lib.hid (HB2.out.trans (hb3.mono HB2.out.size))
      clear hb3
      go_wp2_with fail
      go_ret2
      exact ⟨ret_two (show (nextI (keyI p) (spL ms)).2 = ownR ms p by rw [HT.out.1]; rfl) HT.out.2.symm, HB3.out⟩
    · have HT := Lib.hid (okO_no (show okO ms p = false by unfold okO; rw [HR.out, ptB_no hp]; rfl))
      have HP := Lib.hid (ptB_no hp)
      clear hp
      go_enter Try.func21, Try.ntmps21
      go_wp2_with fail
      refine (right_any A c ms _ HA.out hn).mono ?_
      rintro e w1 ⟨rfl, rfl⟩
      rw [HR.out]
      go_wp2_with fail
      refine (isp_any p _).mono ?_
      rintro e w1 ⟨rfl, rfl⟩
      rw [HP.out]
      go_wp2_with fail
      go_ret2
      exact ⟨ret_two HT.out.1.symm HT.out.2.symm, Below.refl _ _⟩
def okL (ms : List Int) (q : Int) : Bool := rgt ms && decide (1 ≤ q ∧ q ≤ 6)
def ownsR (ms : List Int) (q : Int) : List Int := if okL ms q then ownL ms q.toNat else []
def ownsE (ms : List Int) (q : Int) : Int := if okL ms q then 0 else 1
theorem okL_no {ms : List Int} {q : Int} (h : okL ms q = false) : ownsR ms q = [] ∧ ownsE ms q = 1 := by unfold ownsR ownsE; rw [h]; exact ⟨rfl, rfl⟩
theorem okL_yes {ms : List Int} {q : Int} (h : okL ms q = true) : ownsR ms q = ownL ms q.toNat ∧ ownsE ms q = 0 := by unfold ownsR ownsE; rw [h]; exact ⟨rfl, rfl⟩
/-- What a call answers that makes numbers and tells an error. -/
def OlPost (l : List Int) (E : Int) (w : World) (r : Ending) (w' : World) : Prop :=
  ∃ D d, r = .returned (.tuple #[.slice D l.length d, .int .i64 E]) ∧ w'.ownsRow w.heap.size 3 1 (.slice D l.length d) l.length (vc l) ∧ Below w.heap.size w w'
theorem ol_no {ms : List Int} {q : Int} {w w' : World} (h : okL ms q = false) (hb : Below w.heap.size w w') : OlPost (ownsR ms q) (ownsE ms q) w (.returned (.tuple #[.slice none 0 0, .int .i64 1])) w' := by
  rw [(okL_no h).1, (okL_no h).2]
  exact ⟨none, 0, rfl, World.ownsRow_nil _ _ _ _, hb⟩
theorem made_v (m : Nat) : (madeCells #[.int .i64 0] m).toList = vc (List.replicate m 0) := by rw [toList_madeCells_one]; simp [vc]
/-- The owners, so far. -/
def odL (ms : List Int) (m k : Nat) : List Int := ((List.range k).map fun (p : Nat) => ownI ms p) ++ List.replicate (m - k) 0
theorem odL_len (ms : List Int) {m k : Nat} (h : k ≤ m) : (odL ms m k).length = m := by unfold odL; simp; omega
theorem odL_set (ms : List Int) (m k : Nat) (h : k < m) : (odL ms m k).set k (ownI ms k) = odL ms m (k + 1) := by
  unfold odL
  have e : m - k = (m - (k + 1)) + 1 := by omega
  rw [List.set_append_right _ _ (by simp), List.length_map, List.length_range, Nat.sub_self, e, List.replicate_succ, List.set_cons_zero, List.range_succ, List.map_append, List.append_assoc]
  rfl
theorem odL_all (ms : List Int) (m : Nat) : odL ms m m = ownL ms m := by unfold odL ownL; simp
theorem odL_no (ms : List Int) (m : Nat) : odL ms m 0 = List.replicate m 0 := by unfold odL; simp
def OwRel (ms : List Int) (m : Nat) (w2 : World) (i : Value) (W : World) : Prop := ∃ k : Nat, i = .int .i64 k ∧ k ≤ m ∧ Hid (Below w2.heap.size w2 W) ∧ Hid (W.ownsRow w2.heap.size 3 1 (.slice (some ⟨w2.heap.size, 0, none⟩) m m) m (vc (odL ms m k)))
set_option maxHeartbeats 2000000 in
theorem owners_any (A : Option Addr) (c : Nat) (ms : List Int) (q : Int) (w : World) (hA : Lies w w.heap.size 1 A ms.length (vc ms)) (hn : ms.length ≤ 1000000) :
    Calls Try.prog 16 #[.slice A ms.length c, .int .i64 q] w (OlPost (ownsR ms q) (ownsE ms q) w) := by
  have HA := Lib.hid hA
  clear hA
  cases hr : rgt ms with
  | false =>
    have HT := Lib.hid (show okL ms q = false by unfold okL; rw [hr]; rfl)
    have HR := Lib.hid hr
    clear hr
    go_enter Try.func16, Try.ntmps16
    go_wp2_with fail
    refine (right_any A c ms _ HA.out hn).mono ?_
    rintro e w1 ⟨rfl, rfl⟩
    rw [HR.out]
    go_wp2_with fail
    go_ret2
    exact ol_no HT.out (Below.refl _ _)
  | true =>
    have HR := Lib.hid hr
    clear hr
    by_cases h1 : 1 ≤ q
    · by_cases h6 : q ≤ 6
      · have HT := Lib.hid (okL_yes (show okL ms q = true by unfold okL; rw [HR.out, decide_eq_true ⟨h1, h6⟩]; rfl))
        have HL := Lib.hid (rgt_len HR.out)
        have HSL := Lib.hid (show (spL ms).length ≤ 1000 by rw [spL_len]; have := HL.out; omega)
        obtain ⟨m, rfl⟩ : ∃ m : Nat, q = m := ⟨q.toNat, by omega⟩
        have hm6 : m ≤ 6 := by omega
        have h1' : ¬ (m : Int) < 1 := by omega
        have h6' : ¬ (6 : Int) < (m : Int) := by omega
        have hfd := field_w
        go_enter Try.func16, Try.ntmps16
        go_wp2_with fail
        refine (right_any A c ms _ HA.out hn).mono ?_
        rintro e w1 ⟨rfl, rfl⟩
        rw [HR.out]
        go_wp2_with fail
        refine (spots_any A c ms _ HA.out HL.out.2).mono ?_
        rintro e w2 ⟨D, d, rfl, ho2, hb2⟩
        have HL2 := Lib.hid (Lies.of_own ho2)
        have HB2 := Lib.hid hb2
        have hmk : (Instr.makeSlice 30 (.int .i64 m) (.int .i64 m)).run Try.prog w2 = .ok (.slice (some ⟨w2.heap.size, 0, none⟩) m m) (w2.alloc (.cells (madeCells #[.int .i64 0] m) 3)) := run_make_row' 30 3 (.int .i64 0) 8 Try.underlying30 (by kernel_rfl) rfl .i64 .i64 m (by omega) (by omega) w2
        have HO := Lib.hid (show (w2.alloc (.cells (madeCells #[.int .i64 0] m) 3)).ownsRow w2.heap.size 3 1 (.slice (some ⟨w2.heap.size, 0, none⟩) m m) m (vc (odL ms m 0)) by
          have e := made_v m
          rw [odL_no]
          refine ⟨by rw [vc_len]; simp, .inr ⟨w2.heap.size, m, madeCells #[.int .i64 0] m, rfl, Nat.le_refl _, heap_alloc_new _ _, Nat.le_refl _, by unfold maxLen; omega, by rw [← Array.length_toList, e, vc_len]; simp, ?_⟩⟩
          rw [e, Nat.mul_one]; exact List.take_of_length_le (by rw [vc_len]; simp))
        have HBA := Lib.hid (below_alloc w2 (.cells (madeCells #[.int .i64 0] m) 3))
        clear ho2 hb2
        go_wp2_with fail
        generalize w2.alloc (.cells (madeCells #[.int .i64 0] m) 3) = w3 at HO HBA ⊢
        clear hmk
        go_loopw [25] (fun i W => OwRel ms m w2 i W) (fun i W => m - (intOf i).toNat)
        case atStart => exact ⟨0, rfl, Nat.zero_le _, HBA, HO⟩
        case round =>
          obtain ⟨k, rfl, hk, HB, HW⟩ := hrel
          by_cases hkm : k < m
          · have hkl : (k : Int) < (m : Int) := by omega
            have hk6 : k < 6 := by omega
            have HLW := Lib.hid ((HL2.out.below HB.out).more HB.out.size)
            go_wp2_with fail
            refine (key_any k _).mono ?_
            rintro e w1 ⟨rfl, rfl⟩
            go_wp2_with fail
            refine (next_any D d (spL ms) (keyI k) _ HLW.out HSL.out).mono ?_
            rintro e w5 ⟨rfl, hb5⟩
            have HB5 := Lib.hid (HB.out.trans (hb5.mono HB.out.size))
            have HO5 := Lib.hid (own_next HW.out hb5)
            have HX := Lib.hid (show (nextI (keyI k) (spL ms)).2 = ownI ms k from rfl)
            obtain ⟨x0, hx0⟩ : ∃ x0, w5.cell? ⟨w2.heap.size, k, none⟩ = some x0 := ⟨_, (HO5.out.cellAt k (by omega)).trans (vc_at _ k (by rw [odL_len ms hk]; exact hkm))⟩
            have fz := HO5.out.frozenAt k
            have HSZ := Lib.hid (Nat.lt_of_lt_of_le (show w2.heap.size < wr.heap.size from (HW.out.lt w2.heap.size rfl).2) hb5.size)
            clear hb5
            generalize (nextI (keyI k) (spL ms)).2 = x at HX ⊢
            have HO6 := Lib.hid ((HO5.out.stored k (.int .i64 x)).1)
            go_wp2_with fail
            go_roundw
            case rel => exact ⟨k + 1, by go_num, by omega, HB5.out.setCell (by simp) _, by have e := odL_set ms m k hkm; rw [← HX.out] at e; have := HO6.out; rw [vc_set, e] at this; exact this⟩
            case measure => simp [intOf]; omega
          · have hk' : k = m := by omega
            subst hk'
            have HE := Lib.hid (show odL ms k k = ownsR ms k by rw [odL_all, HT.out.1]; simp)
            have HLE := Lib.hid (show (ownsR ms k).length = k by rw [← HE.out, odL_len ms (Nat.le_refl _)])
            have HBB := Lib.hid (HB2.out.trans (HB.out.mono HB2.out.size))
            have HOF := Lib.hid (show wr.ownsRow w.heap.size 3 1 (.slice (some ⟨w2.heap.size, 0, none⟩) (ownsR ms k).length k) (ownsR ms k).length (vc (ownsR ms k)) by rw [HLE.out, ← HE.out]; exact HW.out.lower HB2.out.size)
            go_wp2_with fail
            go_ret2
            exact ⟨some ⟨w2.heap.size, 0, none⟩, k, by rw [HLE.out, HT.out.2]; rfl, HOF.out, HBB.out⟩
      · have HT := Lib.hid (show okL ms q = false by unfold okL; rw [HR.out, decide_eq_false (fun h => h6 h.2)]; rfl)
        have h1' : ¬ q < 1 := by omega
        have h6' : 6 < q := by omega
        go_enter Try.func16, Try.ntmps16
        go_wp2_with fail
        refine (right_any A c ms _ HA.out hn).mono ?_
        rintro e w1 ⟨rfl, rfl⟩
        rw [HR.out]
        go_wp2_with fail
        go_ret2
        exact ol_no HT.out (Below.refl _ _)
    · have HT := Lib.hid (show okL ms q = false by unfold okL; rw [HR.out, decide_eq_false (fun h => h1 h.1)]; rfl)
      have h1' : q < 1 := by omega
      go_enter Try.func16, Try.ntmps16
      go_wp2_with fail
      refine (right_any A c ms _ HA.out hn).mono ?_
      rintro e w1 ⟨rfl, rfl⟩
      rw [HR.out]
      go_wp2_with fail
      go_ret2
      exact ol_no HT.out (Below.refl _ _)
end Go.Proofs.Ytgdgjkdigbohlaa
