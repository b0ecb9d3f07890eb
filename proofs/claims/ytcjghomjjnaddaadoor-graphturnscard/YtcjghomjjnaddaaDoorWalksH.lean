/-
  The contract of number: decimal digits are read as the document says. Condition: at most 4000 bytes.
-/
import Derived.Test.YtcjghomjjnaddaaDoorWalksG
namespace Go.Proofs.YtcjghomjjnaddaaDoor
open Go.RowKit
set_option linter.unusedVariables false

def isD (c : UInt8) : Bool := 48 ≤ c && c ≤ 57
def val (l : List UInt8) : Nat := l.foldl (fun n c => 10 * n + (c.toNat - 48)) 0
def shapeOk (l : List UInt8) : Bool := decide (1 ≤ l.length) && decide (l.length ≤ 19) && !(l.headD 0 == 48 && decide (1 < l.length))
def numOk (l : List UInt8) : Bool := shapeOk l && l.all isD && decide (val l ≤ 9223372036854775807)
def numV (l : List UInt8) : Int := if numOk l then (val l : Int) else 0

theorem isD_iff (c : UInt8) : isD c = true ↔ 48 ≤ (c.toNat : Int) ∧ (c.toNat : Int) ≤ 57 := by
  unfold isD
  simp [UInt8.le_iff_toNat_le]
  omega
theorem val_snoc (l : List UInt8) (c : UInt8) : val (l ++ [c]) = 10 * val l + (c.toNat - 48) := by unfold val; rw [List.foldl_append]; rfl
theorem val_acc : ∀ (l : List UInt8) (a : Nat), l.all isD = true → l.foldl (fun n c => 10 * n + (c.toNat - 48)) a < (a + 1) * 10 ^ l.length
  | [], a, _ => by simp
  | c :: l, a, h => by
    simp only [List.all_cons, Bool.and_eq_true] at h
    have h2 := (isD_iff c).1 h.1
    have h1 := val_acc l (10 * a + (c.toNat - 48)) h.2
    rw [List.foldl_cons, List.length_cons, Nat.pow_succ]
    refine Nat.lt_of_lt_of_le h1 ?_
    rw [Nat.mul_comm (10 ^ l.length) 10, ← Nat.mul_assoc]
    exact Nat.mul_le_mul_right _ (by omega)
theorem val_lt (l : List UInt8) (h : l.all isD = true) : val l < 10 ^ l.length := by have := val_acc l 0 h; unfold val; simpa using this

theorem num_not {l : List UInt8} (h : numOk l = false) : numV l = 0 := by unfold numV; rw [h]; rfl
theorem num_yes {l : List UInt8} (h : numOk l = true) : numV l = val l := by unfold numV; rw [h]; rfl

def NmRel (l : List UInt8) (n i : Value) : Prop := ∃ k : Nat, i = .int .i64 k ∧ k ≤ l.length ∧ (l.take k).all isD = true ∧ n = .int .u64 (val (l.take k) : Int)

theorem take_snoc (s : ByteArray) (k : Nat) (h : k < s.size) : s.data.toList.take (k + 1) = s.data.toList.take k ++ [s[k]] := by
  rw [List.take_succ_eq_append_getElem (by simpa using h)]; rfl

theorem ret2 {a b : Int} {x y : Bool} (h : a = b) (g : x = y) : Ending.returned (.tuple #[.int .i64 a, .bool x]) = .returned (.tuple #[.int .i64 b, .bool y]) := by rw [h, g]

set_option maxRecDepth 100000 in
set_option maxHeartbeats 1000000 in
theorem number_any (s : ByteArray) (w : World) (hs : s.size ≤ 4000) :
    Calls Tryd.prog 36 #[.string s] w fun e w' => e = .returned (.tuple #[.int .i64 (numV s.data.toList), .bool (numOk s.data.toList)]) ∧ w = w' := by
  have hz : s.data.toList.length = s.size := (Lib.size_eq s).symm
  by_cases h1 : s.size < 1
  · have hn : numOk s.data.toList = false := by unfold numOk shapeOk; rw [decide_eq_false (by omega)]; rfl
    have HV := Lib.hid (num_not hn)
    have HN := Lib.hid hn
    clear hn hz
    go_enter Tryd.func36, Tryd.ntmps36
    go_wp2
    go_ret2
    exact ⟨ret2 HV.out.symm HN.out.symm, rfl⟩
  by_cases h2 : 19 < s.size
  · have hn : numOk s.data.toList = false := by unfold numOk shapeOk; rw [decide_eq_false (p := s.data.toList.length ≤ 19) (by omega)]; simp
    have HV := Lib.hid (num_not hn)
    have HN := Lib.hid hn
    clear hn hz
    go_enter Tryd.func36, Tryd.ntmps36
    go_wp2
    go_ret2
    exact ⟨ret2 HV.out.symm HN.out.symm, rfl⟩
  have h0 : 0 < s.size := by omega
  have hh : s.data.toList.headD 0 = s[0]'h0 := by
    have : s.data.toList[0]? = some (s[0]'h0) := List.getElem?_eq_getElem (by omega)
    rw [List.headD_eq_head?_getD, List.head?_eq_getElem?, this]; rfl
  by_cases h3 : s[0]'h0 = 48 ∧ 1 < s.size
  · obtain ⟨h3, h4⟩ := h3
    have hn : numOk s.data.toList = false := by unfold numOk shapeOk; rw [hh, h3, decide_eq_true (p := 1 < s.data.toList.length) (by omega)]; simp
    have HV := Lib.hid (num_not hn)
    have HN := Lib.hid hn
    have h5 : (((s[0]'h0).toNat : Int) == 48) = true := by rw [h3]; rfl
    clear hn hz hh h3
    go_enter Tryd.func36, Tryd.ntmps36
    go_wp2
    go_ret2
    exact ⟨ret2 HV.out.symm HN.out.symm, rfl⟩
  have hshape : shapeOk s.data.toList = true := by
    unfold shapeOk
    rw [hh, decide_eq_true (p := 1 ≤ s.data.toList.length) (by omega), decide_eq_true (p := s.data.toList.length ≤ 19) (by omega)]
    by_cases h4 : s[0]'h0 = 48
    · have : ¬ 1 < s.size := fun h => h3 ⟨h4, h⟩
      rw [decide_eq_false (p := 1 < s.data.toList.length) (by omega)]; simp
    · simp [h4]
  have HSH := Lib.hid hshape
  have HZ := Lib.hid hz
  have main : ∀ (hx : ((((s[0]'h0).toNat : Int) == 48) = true ∧ ¬ 1 < s.size) ∨ (((s[0]'h0).toNat : Int) == 48) = false), Calls Tryd.prog 36 #[.string s] w fun e w' => e = .returned (.tuple #[.int .i64 (numV s.data.toList), .bool (numOk s.data.toList)]) ∧ w = w' := by
    intro hx
    clear hshape hz hh h3
    rcases hx with ⟨hx1, hx2⟩ | hx1
    all_goals
      go_enter Tryd.func36, Tryd.ntmps36
      go_wp2_with fail
      go_loop [4, 26] (fun n i => NmRel s.data.toList n i) (fun n i => s.size - (intOf i).toNat)
      case atStart => exact ⟨0, rfl, Nat.zero_le _, rfl, rfl⟩
      case round =>
        obtain ⟨k, rfl, hk, hall, rfl⟩ := hrel
        have hlt0 := val_lt _ hall
        rw [List.length_take, HZ.out, Nat.min_eq_left (by have := HZ.out; omega)] at hlt0
        have HALL := Lib.hid hall
        clear hall
        by_cases hlt : k < s.size
        · have hv0 : val (s.data.toList.take k) ≤ 999999999999999999 := by
            have : 10 ^ k ≤ 10 ^ 18 := Nat.pow_le_pow_right (by decide) (by omega)
            omega
          have hv : (val (s.data.toList.take k) : Int) ≤ 999999999999999999 := by omega
          have hv1 : (0 : Int) ≤ (val (s.data.toList.take k) : Int) := by omega
          have HS := Lib.hid (show val (s.data.toList.take (k + 1)) = 10 * val (s.data.toList.take k) + (s[k].toNat - 48) by rw [take_snoc s k hlt, val_snoc])
          have HA := Lib.hid (show (s.data.toList.take (k + 1)).all isD = isD s[k] by rw [take_snoc s k hlt, List.all_append, HALL.out]; simp)
          clear hlt0 hv0
          generalize val (s.data.toList.take k) = V at *
          by_cases hd : 48 ≤ (s[k].toNat : Int) ∧ (s[k].toNat : Int) ≤ 57
          · have HD := Lib.hid ((isD_iff s[k]).2 hd)
            obtain ⟨hd1, hd2⟩ := hd
            go_wp2_with fail
            go_round
            case rel => exact ⟨k + 1, by go_num, by have := HZ.out; omega, by rw [HA.out, HD.out], by rw [HS.out]; go_num⟩
            case measure => simp [intOf]; omega
          · have HN := Lib.hid (show numOk s.data.toList = false by
              unfold numOk
              have : s.data.toList.all isD = false := by
                rw [← List.take_append_drop (k + 1) s.data.toList, List.all_append, HA.out]
                have : isD s[k] = false := by
                  rcases h : isD s[k] with _ | _
                  · rfl
                  · exact absurd ((isD_iff _).1 h) hd
                rw [this]; rfl
              rw [this]; simp)
            by_cases hd1 : (s[k].toNat : Int) < 48
            · clear hd
              go_wp2_with fail
              go_ret2
              exact ⟨ret2 (num_not HN.out).symm HN.out.symm, rfl⟩
            · have hd2 : 57 < (s[k].toNat : Int) := by omega
              clear hd
              go_wp2_with fail
              go_ret2
              exact ⟨ret2 (num_not HN.out).symm HN.out.symm, rfl⟩
        · have HK := Lib.hid (show s.data.toList.take k = s.data.toList from List.take_of_length_le (by have := HZ.out; omega))
          have hv0 : val (s.data.toList.take k) ≤ 18446744073709551615 := by
            have : 10 ^ k ≤ 10 ^ 19 := Nat.pow_le_pow_right (by decide) (by have := HZ.out; omega)
            omega
          have hv2 : (val (s.data.toList.take k) : Int) ≤ 18446744073709551615 := by omega
          have hv1 : (0 : Int) ≤ (val (s.data.toList.take k) : Int) := by omega
          by_cases hb : 9223372036854775807 < (val (s.data.toList.take k) : Int)
          · have HN := Lib.hid (show numOk s.data.toList = false by
              unfold numOk
              rw [← HK.out, decide_eq_false (by omega)]; simp)
            clear hlt0 hv0
            generalize val (s.data.toList.take k) = V at *
            go_wp2_with fail
            go_ret2
            exact ⟨ret2 (num_not HN.out).symm HN.out.symm, rfl⟩
          · have HN := Lib.hid (show numOk s.data.toList = true by
              unfold numOk
              have h1 := HALL.out
              rw [HK.out] at h1 hb
              rw [HSH.out, h1, decide_eq_true (by omega)]; rfl)
            have HV := Lib.hid (show numV s.data.toList = (val (s.data.toList.take k) : Int) by rw [num_yes HN.out, HK.out])
            clear hlt0 hv0
            generalize val (s.data.toList.take k) = V at *
            go_wp2_with fail
            go_ret2
            exact ⟨ret2 HV.out.symm HN.out.symm, rfl⟩
  by_cases h4 : (s[0]'h0) = 48
  · exact main (.inl ⟨by rw [h4]; rfl, fun h => h3 ⟨h4, h⟩⟩)
  · refine main (.inr ?_)
    rw [beq_eq_false_iff_ne]
    intro h
    exact h4 (UInt8.toNat_inj.1 (by have : (48 : UInt8).toNat = 48 := rfl; omega))
end Go.Proofs.YtcjghomjjnaddaaDoor
