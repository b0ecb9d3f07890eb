import Derived.Test.YtpgdddjjjfkneaaGreatDoorKb
import Derived.Test.YtpgdddjjjfkneaaGreatDoorShelfS
import Derived.Below
import Derived.BigQuiet
import Derived.Deep.DeepMust
import Derived.Deep.Draws
import Derived.Deep.QuietTactic
import Derived.Deep.RegionHeld3
import Derived.Deep.RegionLaw
import Derived.Laws.CopyOwn
import Derived.Laws.IdiomStrings
import Derived.Laws.NewBlocks
import Derived.Laws.Slices
import Derived.Lib.AppendStr
import Derived.Lib.AppendZerosOnto
import Derived.Lib.CutLaws
import Derived.Lib.Hide
import Derived.Lib.ItoaLen
import Derived.Lib.ItoaNum
import Derived.Lib.Overlaps
import Derived.Lib.Small
import Derived.Lib.SmallJoins
import Derived.Lib.Strings
import Derived.Maps.AppendAt
import Derived.StillTailTactics
import Derived.WalkKit
import Derived.WalkMore
namespace Go.Proofs.YtpgdddjjjfkneaaGreatDoor
open Go.RowKit
open Go.RowKit Go.Sort
set_option linter.unusedVariables false

instance (a b : Ed) : Decidable (ltE a b) := inferInstanceAs (Decidable (_ ∨ _))
def keyE (a b : Ed) : Prop := a.1 = b.1 ∧ a.2.1 = b.2.1
section
variable {w w' : World} {B B' s n : Nat} {A : Option Addr} {xs : List Value}
end
section
variable {P : Program} (w : World)
end
theorem ec_take (es : List Ed) (k : Nat) : (ec es).take (k * 3) = ec (es.take k) := by
  induction es generalizing k with
  | nil => simp [ec]
  | cons e r ih =>
    cases k with
    | zero => simp [ec]
    | succ k =>
      have : (k + 1) * 3 = k * 3 + 3 := by omega
      rw [this, List.take_succ_cons]
      show List.take (k * 3 + 3) (_ :: _ :: _ :: ec r) = _ :: _ :: _ :: ec (r.take k)
      rw [← ih]; rfl
theorem ec_drop (es : List Ed) (k : Nat) : (ec es).drop (k * 3) = ec (es.drop k) := by
  induction es generalizing k with
  | nil => simp [ec]
  | cons e r ih =>
    cases k with
    | zero => simp [ec]
    | succ k =>
      have : (k + 1) * 3 = k * 3 + 3 := by omega
      rw [this, List.drop_succ_cons, ← ih]; rfl
/-- The digits of a number. -/
def dec (n : Int) : List UInt8 := Lib.decDigits n.toNat
def line (e : Ed) : List UInt8 := [101, 100, 103, 101, 32] ++ (dec e.1 ++ ([32] ++ (dec e.2.1 ++ ([32] ++ (dec e.2.2 ++ [10])))))
def lines (es : List Ed) : List UInt8 := es.flatMap line
/-! ### lines -/
def cutA (l : List UInt8) : List UInt8 := l.takeWhile (· != 10)
def cutB (l : List UInt8) : List UInt8 := (l.dropWhile (· != 10)).drop 1
theorem cut_ix : ∀ l : List UInt8, (Lib.indexByte l 10 = -1 ∧ cutA l = l ∧ cutB l = []) ∨ ∃ i : Nat, Lib.indexByte l 10 = i ∧ i < l.length ∧ cutA l = l.take i ∧ cutB l = l.drop (i + 1)
  | [] => .inl ⟨rfl, rfl, rfl⟩
  | b :: l => by
    by_cases hb : b = 10
    · subst hb
      exact .inr ⟨0, by simp [Lib.indexByte], by simp, by simp [cutA], by simp [cutB]⟩
    · have hb1 : (b == 10) = false := by simpa using hb
      have hb2 : (b != 10) = true := by simpa using hb
      have eA : cutA (b :: l) = b :: cutA l := by unfold cutA; rw [List.takeWhile_cons, if_pos hb2]
      have eB : cutB (b :: l) = cutB l := by unfold cutB; rw [List.dropWhile_cons, if_pos hb2]
      rcases cut_ix l with ⟨h1, h2, h3⟩ | ⟨i, h1, h2, h3, h4⟩
      · refine .inl ⟨?_, by rw [eA, h2], by rw [eB, h3]⟩
        unfold Lib.indexByte
        rw [hb1, h1]; try rfl
      · refine .inr ⟨i + 1, ?_, by simpa using h2, by rw [eA, h3]; rfl, by rw [eB, h4]; rfl⟩
        unfold Lib.indexByte
        have : ((i : Int) == -1) = false := by rw [beq_eq_false_iff_ne]; omega
        simp [hb1, h1, this]
theorem cutB_len (l : List UInt8) : (cutB l).length ≤ l.length - 1 := by
  rcases cut_ix l with ⟨_, _, h⟩ | ⟨i, _, h1, _, h⟩
  · rw [h]; simp
  · rw [h, List.length_drop]; omega
theorem cutA_len (l : List UInt8) : (cutA l).length ≤ l.length := by
  rcases cut_ix l with ⟨_, h, _⟩ | ⟨i, _, h1, h, _⟩
  · rw [h]; omega
  · rw [h, List.length_take]; omega
theorem ext_to (l : List UInt8) (i : Nat) : (⟨l.toArray⟩ : ByteArray).extract 0 i = ⟨(l.take i).toArray⟩ := by
  apply ByteArray.ext; simp
theorem ext_from (l : List UInt8) (i : Nat) : (⟨l.toArray⟩ : ByteArray).extract i (⟨l.toArray⟩ : ByteArray).size = ⟨(l.drop i).toArray⟩ := by
  apply ByteArray.ext
  simp only [ByteArray.data_extract, ByteArray.size, List.size_toArray, List.extract_toArray, List.extract_eq_take_drop]
  rw [List.take_of_length_le (by simp)]
theorem index1 (s : ByteArray) (c : UInt8) (w : World) : Calls Tryz.prog 52 #[.string s, .string ⟨#[c]⟩] w fun e w' => e = .returned (.int .i64 (Lib.indexByte s.data.toList c)) ∧ w = w' :=
  (Tryz.stringslite_Index_one s c w).mono fun _ _ ⟨a, b⟩ => ⟨a, b.symm⟩
set_option maxRecDepth 100000 in
theorem cutLite (l : List UInt8) (w : World) (hl : l.length ≤ 4000) : Calls Tryz.prog 24 #[.string ⟨l.toArray⟩, .string ⟨#[10]⟩] w fun e w' => ∃ a b c, e = .returned (.tuple #[.string a, .string b, .bool c]) ∧ a = ⟨(cutA l).toArray⟩ ∧ b = ⟨(cutB l).toArray⟩ ∧ Below w.heap.size w w' := by
  rcases cut_ix l with ⟨h1, h2, h3⟩ | ⟨i, h1, hi, h2, h3⟩
  · have HA := Lib.hid h2
    have HB := Lib.hid h3
    have HI := Lib.hid h1
    clear h1 h2 h3
    go_enter Tryz.func24, Tryz.ntmps24
    go_wp2_with ((go_at_call 52; (with_reducible refine (index1 _ _ _).mono ?_); rintro e w' ⟨rfl, rfl⟩; rw [HI.out]))
    go_ret3
    exact ⟨_, _, _, rfl, by rw [HA.out], by rw [HB.out], Below.refl _ _⟩
  · obtain ⟨s, hs⟩ : ∃ s : ByteArray, s = ⟨l.toArray⟩ := ⟨_, rfl⟩
    have hz : s.size = l.length := by rw [hs]; simp [ByteArray.size]
    have hI : Lib.indexByte s.data.toList 10 = (i : Int) := by rw [hs]; exact h1
    have e1 : s.extract 0 i = ⟨(cutA l).toArray⟩ := by rw [hs, ext_to, h2]
    have e2 : s.extract (i + 1) s.size = ⟨(cutB l).toArray⟩ := by rw [hs, ext_from, h3]
    rw [← hs]
    have c1 : (0 : Int) ≤ ↑i := by omega
    have c2 : (↑i : Int) ≤ ↑s.size := by omega
    have c3 : (0 : Int) ≤ ↑i + 1 := by omega
    have c4 : (↑i + 1 : Int) ≤ ↑s.size := by omega
    have c5 : (↑i : Int) < 4000 := by omega
    have HI := Lib.hid hI
    have HA := Lib.hid e1
    have HB := Lib.hid e2
    clear hs hz h1 h2 h3 hI e1 e2
    go_enter Tryz.func24, Tryz.ntmps24
    go_wp2_with ((go_at_call 52; (with_reducible refine (index1 _ _ _).mono ?_); rintro e w' ⟨rfl, rfl⟩; rw [HI.out]))
    go_quiet (fail)
    go_wp2_with fail
    go_ret3
    exact ⟨_, _, _, rfl, HA.out, HB.out, below_to_drewN (Below.refl _ _) _⟩
theorem cut_nl (s : ByteArray) (l : List UInt8) (w : World) (hs : s = ⟨l.toArray⟩) (hl : l.length ≤ 4000) : Calls Tryz.prog 12 #[.string s, .string ⟨#[10]⟩] w fun e w' => ∃ a b c, e = .returned (.tuple #[.string a, .string b, .bool c]) ∧ a = ⟨(cutA l).toArray⟩ ∧ b = ⟨(cutB l).toArray⟩ ∧ Below w.heap.size w w' := by
  subst hs
  go_enter Tryz.func12, Tryz.ntmps12
  go_wp2_with fail
  refine (cutLite l _ hl).mono ?_
  rintro e w1 ⟨a, b, c, rfl, ha, hb, hw⟩
  have HA := Lib.hid ha
  have HB := Lib.hid hb
  clear ha hb
  go_wp2_with fail
  go_ret3
  exact ⟨_, _, _, rfl, HA.out, HB.out, hw⟩
/-! ### words -/
theorem count1 (s : ByteArray) (w : World) : Calls Tryz.prog 122 #[.string s, .string ⟨#[32]⟩] w fun e w' => e = .returned (.int .i64 (Lib.countB s ⟨#[32]⟩)) ∧ w' = w := by
  refine (Tryz.strings_Count_one s 32 w).mono fun e w' ⟨he, hw⟩ => ⟨?_, hw⟩
  rw [he]
  show _ = Ending.returned (Value.int .i64 ((Lib.count s.data.toList [32] : Nat) : Int))
  rw [Lib.count_one]
  rfl
theorem index2 (s : ByteArray) (w : World) : Calls Tryz.prog 123 #[.string s, .string ⟨#[32]⟩] w fun e w' => e = .returned (.int .i64 (Lib.indexB s ⟨#[32]⟩)) ∧ w' = w := by
  refine (Tryz.strings_Index_one s 32 w).mono fun e w' ⟨he, hw⟩ => ⟨?_, hw⟩
  rw [he]
  show _ = Ending.returned (Value.int .i64 (Lib.index s.data.toList [32]))
  rw [Lib.index_one]
/-- The words of a text. -/
def words (l : List UInt8) : List (List UInt8) := Lib.split l [32]
theorem splitB_words (s : ByteArray) : (Lib.splitB ⟨#[32]⟩ 0 (Lib.countB s ⟨#[32]⟩) s).map (·.data.toList) = words s.data.toList := Lib.splitB_data _ _ _ _
set_option maxHeartbeats 1000000 in
theorem split_sp (s : ByteArray) (w : World) (hs : s.size ≤ 4000) :
    Calls Tryz.prog 54 #[.string s, .string ⟨#[32]⟩] w fun e w' => ∃ ws : List ByteArray, e = .returned (.slice (some ⟨w.heap.size, 0, none⟩) ws.length ws.length) ∧ ws.map (·.data.toList) = words s.data.toList ∧ w.alloc (.cells (ws.map Value.string).toArray 9) = w' := by
  have hlen := Lib.splitB_all ⟨#[32]⟩ (by decide) 0 _ s rfl
  have hle := Lib.countB_le ⟨#[32]⟩ (by decide) s.size s (Nat.le_refl _)
  have c := Any.strings_genSplit_core Tryz.lays221 (show (Tryz.prog.info? 9).map (fun i => (i.zero, i.size, i.bytes)) = some (some (.string ByteArray.empty), 1, 16) by kernel_rfl) s ⟨#[32]⟩ 0 (-1) (Lib.countB s ⟨#[32]⟩ + 1) w (by omega) (by decide) (Nat.zero_le _)
    (fun x c hx => index2 x _) (count1 s w) (by decide) (by decide) (by rw [if_pos (by decide)]; omega)
  rw [Nat.add_sub_cancel, hlen] at c
  have e2 : Lib.cellsOf (Lib.splitB ⟨#[32]⟩ 0 (Lib.countB s ⟨#[32]⟩) s) (Lib.countB s ⟨#[32]⟩ + 1) = ((Lib.splitB ⟨#[32]⟩ 0 (Lib.countB s ⟨#[32]⟩) s).map Value.string).toArray := by rw [← hlen]; exact Lib.cellsOf_full _
  rw [e2] at c
  have C := Lib.hid c
  have HL := Lib.hid hlen
  clear c e2 hlen hle
  go_enter Tryz.func54, Tryz.ntmps54
  go_wp2_with fail
  refine C.out.mono ?_
  rintro e w' ⟨rfl, hw⟩
  have HW := Lib.hid hw
  clear hw
  go_wp2_with fail
  go_ret
  exact ⟨Lib.splitB ⟨#[32]⟩ 0 (Lib.countB s ⟨#[32]⟩) s, by rw [HL.out]; rfl, splitB_words s, HW.out.symm⟩
theorem prefix_any (s p : ByteArray) (w : World) :
    Calls Tryz.prog 25 #[.string s, .string p] w fun e w' => e = .returned (.tuple #[.string ⟨(Lib.trimPrefix s.data.toList p.data.toList).toArray⟩, .bool (Lib.hasPrefix s.data.toList p.data.toList)]) ∧ w = w' :=
  (Tryz.strings_CutPrefix s p w).mono fun _ _ ⟨a, b⟩ => ⟨a, b.symm⟩
def isD (c : UInt8) : Bool := 48 ≤ c && c ≤ 57
def val (l : List UInt8) : Nat := l.foldl (fun n c => 10 * n + (c.toNat - 48)) 0
def shapeOk (l : List UInt8) : Bool := decide (1 ≤ l.length) && decide (l.length ≤ 19) && !(l.headD 0 == 48 && decide (1 < l.length))
def numOk (l : List UInt8) : Bool := shapeOk l && l.all isD && decide (val l ≤ 9223372036854775807)
def numV (l : List UInt8) : Int := if numOk l then (val l : Int) else 0
theorem isD_iff (c : UInt8) : isD c = true ↔ 48 ≤ (c.toNat : Int) ∧ (c.toNat : Int) ≤ 57 := by
  unfold isD
  simp [UInt8.le_iff_toNat_le]
  omega
theorem val_snoc (l : List UInt8) (c : UInt8) : val (l ++ [c]) = 10 * val l + (c.toNat - 48) := by unfold val; rw [List.foldl_append]; rfl
theorem val_acc : ∀ (l : List UInt8) (a : Nat), l.all isD = true → l.foldl (fun n c => 10 * n + (c.toNat - 48)) a < (a + 1) * 10 ^ l.length
  | [], a, _ => by simp
  | c :: l, a, h => by
    simp only [List.all_cons, Bool.and_eq_true] at h
    have h2 := (isD_iff c).1 h.1
    have h1 := val_acc l (10 * a + (c.toNat - 48)) h.2
    rw [List.foldl_cons, List.length_cons, Nat.pow_succ]
    refine Nat.lt_of_lt_of_le h1 ?_
    rw [Nat.mul_comm (10 ^ l.length) 10, ← Nat.mul_assoc]
    exact Nat.mul_le_mul_right _ (by omega)
theorem val_lt (l : List UInt8) (h : l.all isD = true) : val l < 10 ^ l.length := by have := val_acc l 0 h; unfold val; simpa using this
theorem num_not {l : List UInt8} (h : numOk l = false) : numV l = 0 := by unfold numV; rw [h]; rfl
theorem num_yes {l : List UInt8} (h : numOk l = true) : numV l = val l := by unfold numV; rw [h]; rfl
def NmRel (l : List UInt8) (n i : Value) : Prop := ∃ k : Nat, i = .int .i64 k ∧ k ≤ l.length ∧ (l.take k).all isD = true ∧ n = .int .u64 (val (l.take k) : Int)
theorem take_snoc (s : ByteArray) (k : Nat) (h : k < s.size) : s.data.toList.take (k + 1) = s.data.toList.take k ++ [s[k]] := by
  rw [List.take_succ_eq_append_getElem (by simpa using h)]; rfl
theorem ret2 {a b : Int} {x y : Bool} (h : a = b) (g : x = y) : Ending.returned (.tuple #[.int .i64 a, .bool x]) = .returned (.tuple #[.int .i64 b, .bool y]) := by rw [h, g]
set_option maxRecDepth 100000 in
set_option maxHeartbeats 1000000 in
theorem number_any (s : ByteArray) (w : World) (hs : s.size ≤ 4000) :
    Calls Tryz.prog 26 #[.string s] w fun e w' => e = .returned (.tuple #[.int .i64 (numV s.data.toList), .bool (numOk s.data.toList)]) ∧ w = w' := by
  have hz : s.data.toList.length = s.size := (Lib.size_eq s).symm
  by_cases h1 : s.size < 1
  · have hn : numOk s.data.toList = false := by unfold numOk shapeOk; rw [decide_eq_false (by omega)]; rfl
    have HV := Lib.hid (num_not hn)
    have HN := Lib.hid hn
    clear hn hz
    go_enter Tryz.func26, Tryz.ntmps26
    go_wp2
    go_ret2
    exact ⟨ret2 HV.out.symm HN.out.symm, rfl⟩
  by_cases h2 : 19 < s.size
  · have hn : numOk s.data.toList = false := by unfold numOk shapeOk; rw [decide_eq_false (p := s.data.toList.length ≤ 19) (by omega)]; simp
    have HV := Lib.hid (num_not hn)
    have HN := Lib.hid hn
    clear hn hz
    go_enter Tryz.func26, Tryz.ntmps26
    go_wp2
    go_ret2
    exact ⟨ret2 HV.out.symm HN.out.symm, rfl⟩
  have h0 : 0 < s.size := by omega
  have hh : s.data.toList.headD 0 = s[0]'h0 := by
    have : s.data.toList[0]? = some (s[0]'h0) := List.getElem?_eq_getElem (by omega)
    rw [List.headD_eq_head?_getD, List.head?_eq_getElem?, this]; rfl
  by_cases h3 : s[0]'h0 = 48 ∧ 1 < s.size
  · obtain ⟨h3, h4⟩ := h3
    have hn : numOk s.data.toList = false := by unfold numOk shapeOk; rw [hh, h3, decide_eq_true (p := 1 < s.data.toList.length) (by omega)]; simp
    have HV := Lib.hid (num_not hn)
    have HN := Lib.hid hn
    have h5 : (((s[0]'h0).toNat : Int) == 48) = true := by rw [h3]; rfl
    clear hn hz hh h3
    go_enter Tryz.func26, Tryz.ntmps26
    go_wp2
    go_ret2
    exact ⟨ret2 HV.out.symm HN.out.symm, rfl⟩
  have hshape : shapeOk s.data.toList = true := by
    unfold shapeOk
    rw [hh, decide_eq_true (p := 1 ≤ s.data.toList.length) (by omega), decide_eq_true (p := s.data.toList.length ≤ 19) (by omega)]
    by_cases h4 : s[0]'h0 = 48
    · have : ¬ 1 < s.size := fun h => h3 ⟨h4, h⟩
      rw [decide_eq_false (p := 1 < s.data.toList.length) (by omega)]; simp
    · simp [h4]
  have HSH := Lib.hid hshape
  have HZ := Lib.hid hz
  have main : ∀ (hx : ((((s[0]'h0).toNat : Int) == 48) = true ∧ ¬ 1 < s.size) ∨ (((s[0]'h0).toNat : Int) == 48) = false), Calls Tryz.prog 26 #[.string s] w fun e w' => e = .returned (.tuple #[.int .i64 (numV s.data.toList), .bool (numOk s.data.toList)]) ∧ w = w' := by
    intro hx
    clear hshape hz hh h3
    rcases hx with ⟨hx1, hx2⟩ | hx1
    all_goals
      go_enter Tryz.func26, Tryz.ntmps26
      go_wp2_with fail
      go_loop [4, 26] (fun n i => NmRel s.data.toList n i) (fun n i => s.size - (intOf i).toNat)
      case atStart => exact ⟨0, rfl, Nat.zero_le _, rfl, rfl⟩
      case round =>
        obtain ⟨k, rfl, hk, hall, rfl⟩ := hrel
        have hlt0 := val_lt _ hall
        rw [List.length_take, HZ.out, Nat.min_eq_left (by have := HZ.out; omega)] at hlt0
        have HALL := Lib.hid hall
        clear hall
        by_cases hlt : k < s.size
        · have hv0 : val (s.data.toList.take k) ≤ 999999999999999999 := by
            have : 10 ^ k ≤ 10 ^ 18 := Nat.pow_le_pow_right (by decide) (by omega)
            omega
          have hv : (val (s.data.toList.take k) : Int) ≤ 999999999999999999 := by omega
          have hv1 : (0 : Int) ≤ (val (s.data.toList.take k) : Int) := by omega
          have HS := Lib.hid (show val (s.data.toList.take (k + 1)) = 10 * val (s.data.toList.take k) + (s[k].toNat - 48) by rw [take_snoc s k hlt, val_snoc])
          have HA := Lib.hid (show (s.data.toList.take (k + 1)).all isD = isD s[k] by rw [take_snoc s k hlt, List.all_append, HALL.out]; simp)
          clear hlt0 hv0
          generalize val (s.data.toList.take k) = V at *
          by_cases hd : 48 ≤ (s[k].toNat : Int) ∧ (s[k].toNat : Int) ≤ 57
          · have HD := Lib.hid ((isD_iff s[k]).2 hd)
            obtain ⟨hd1, hd2⟩ := hd
            go_wp2_with fail
            go_round
            case rel => exact ⟨k + 1, by go_num, by have := HZ.out; omega, by rw [HA.out, HD.out], by rw [HS.out]; go_num⟩
            case measure => simp [intOf]; omega
          · have HN := Lib.hid (show numOk s.data.toList = false by
              unfold numOk
              have : s.data.toList.all isD = false := by
                rw [← List.take_append_drop (k + 1) s.data.toList, List.all_append, HA.out]
                have : isD s[k] = false := by
                  rcases h : isD s[k] with _ | _
                  · rfl
                  · exact absurd ((isD_iff _).1 h) hd
                rw [this]; rfl
              rw [this]; simp)
            by_cases hd1 : (s[k].toNat : Int) < 48
            · clear hd
              go_wp2_with fail
              go_ret2
              exact ⟨ret2 (num_not HN.out).symm HN.out.symm, rfl⟩
            · have hd2 : 57 < (s[k].toNat : Int) := by omega
              clear hd
              go_wp2_with fail
              go_ret2
              exact ⟨ret2 (num_not HN.out).symm HN.out.symm, rfl⟩
        · have HK := Lib.hid (show s.data.toList.take k = s.data.toList from List.take_of_length_le (by have := HZ.out; omega))
          have hv0 : val (s.data.toList.take k) ≤ 18446744073709551615 := by
            have : 10 ^ k ≤ 10 ^ 19 := Nat.pow_le_pow_right (by decide) (by have := HZ.out; omega)
            omega
          have hv2 : (val (s.data.toList.take k) : Int) ≤ 18446744073709551615 := by omega
          have hv1 : (0 : Int) ≤ (val (s.data.toList.take k) : Int) := by omega
          by_cases hb : 9223372036854775807 < (val (s.data.toList.take k) : Int)
          · have HN := Lib.hid (show numOk s.data.toList = false by
              unfold numOk
              rw [← HK.out, decide_eq_false (by omega)]; simp)
            clear hlt0 hv0
            generalize val (s.data.toList.take k) = V at *
            go_wp2_with fail
            go_ret2
            exact ⟨ret2 (num_not HN.out).symm HN.out.symm, rfl⟩
          · have HN := Lib.hid (show numOk s.data.toList = true by
              unfold numOk
              have h1 := HALL.out
              rw [HK.out] at h1 hb
              rw [HSH.out, h1, decide_eq_true (by omega)]; rfl)
            have HV := Lib.hid (show numV s.data.toList = (val (s.data.toList.take k) : Int) by rw [num_yes HN.out, HK.out])
            clear hlt0 hv0
            generalize val (s.data.toList.take k) = V at *
            go_wp2_with fail
            go_ret2
            exact ⟨ret2 HV.out.symm HN.out.symm, rfl⟩
  by_cases h4 : (s[0]'h0) = 48
  · exact main (.inl ⟨by rw [h4]; rfl, fun h => h3 ⟨h4, h⟩⟩)
  · refine main (.inr ?_)
    rw [beq_eq_false_iff_ne]
    intro h
    exact h4 (UInt8.toNat_inj.1 (by have : (48 : UInt8).toNat = 48 := rfl; omega))
def graphW : List UInt8 := [103, 114, 97, 112, 104, 32]
def edgeW : List UInt8 := [101, 100, 103, 101, 32]
/-- The first line: N and the error. -/
def readH (l : List UInt8) : Int × Int :=
  if Lib.hasPrefix l graphW then
    if numOk (Lib.trimPrefix l graphW) then
      if numV (Lib.trimPrefix l graphW) < 1 ∨ 24 < numV (Lib.trimPrefix l graphW) then (0, 1) else (numV (Lib.trimPrefix l graphW), 0)
    else (0, 2)
  else (0, 2)
theorem trim_len (l p : List UInt8) : (Lib.trimPrefix l p).length ≤ l.length := by unfold Lib.trimPrefix; split <;> simp
set_option maxHeartbeats 1000000 in
theorem readHead_any (s : ByteArray) (w : World) (hs : s.size ≤ 4000) :
    Calls Tryz.prog 13 #[.string s] w fun e w' => e = .returned (.tuple #[.agg #[.int .i64 (readH s.data.toList).1, .slice none 0 0], .int .i64 (readH s.data.toList).2]) ∧ Below w.heap.size w w' := by
  have HR : Hid (readH s.data.toList = _) := Lib.hid (by unfold readH; rfl)
  obtain ⟨d, hd⟩ : ∃ d : ByteArray, d = ⟨(Lib.trimPrefix s.data.toList graphW).toArray⟩ := ⟨_, rfl⟩
  have hdl : d.data.toList = Lib.trimPrefix s.data.toList graphW := by rw [hd]
  have hdz : d.size ≤ 4000 := by
    have := trim_len s.data.toList graphW
    rw [Lib.size_eq, hdl]
    rw [Lib.size_eq] at hs
    omega
  have HP : Hid (∀ W : World, Calls Tryz.prog 25 #[.string s, .string ⟨#[103, 114, 97, 112, 104, 32]⟩] W fun e w' => e = .returned (.tuple #[.string d, .bool (Lib.hasPrefix s.data.toList graphW)]) ∧ W = w') := Lib.hid (fun W => by
    refine (prefix_any s ⟨#[103, 114, 97, 112, 104, 32]⟩ W).mono ?_
    rintro e w' ⟨rfl, rfl⟩
    exact ⟨by rw [hd]; rfl, rfl⟩)
  rw [← hdl] at HR
  clear hd
  have HDL := Lib.hid hdl
  clear hdl
  rcases hp : Lib.hasPrefix s.data.toList graphW with _ | _
  · rw [hp] at HR HP
    have H1 := Lib.hid (show readH s.data.toList = (0, 2) from HR.out)
    clear hp HR
    go_enter Tryz.func13, Tryz.ntmps13
    go_wp2_with fail
    refine (HP.out _).mono ?_
    rintro e w' ⟨rfl, rfl⟩
    go_wp2_with fail
    exact bodyPost_ret (v := .tuple #[.agg #[.int .i64 0, .slice none 0 0], .int .i64 2]) (by simp [results, Tryz.results13, go_sem]) rfl ⟨by rw [H1.out], below_alloc _ _⟩
  · rw [hp] at HR HP
    clear hp
    rcases hn : numOk d.data.toList with _ | _
    · rw [hn] at HR
      have H1 := Lib.hid (show readH s.data.toList = (0, 2) from HR.out)
      have HN := Lib.hid hn
      clear HR hn
      go_enter Tryz.func13, Tryz.ntmps13
      go_wp2_with fail
      refine (HP.out _).mono ?_
      rintro e w' ⟨rfl, rfl⟩
      go_wp2_with fail
      refine (number_any d _ hdz).mono ?_
      rintro e w' ⟨rfl, rfl⟩
      rw [HN.out]
      go_wp2_with fail
      exact bodyPost_ret (v := .tuple #[.agg #[.int .i64 0, .slice none 0 0], .int .i64 2]) (by simp [results, Tryz.results13, go_sem]) rfl ⟨by rw [H1.out], below_alloc _ _⟩
    · rw [hn] at HR
      have HN := Lib.hid hn
      clear hn
      by_cases hv : numV d.data.toList < 1 ∨ 24 < numV d.data.toList
      · have H1 := Lib.hid (show readH s.data.toList = (0, 1) by rw [HR.out, if_pos rfl, if_pos rfl, if_pos hv])
        clear HR
        by_cases hv1 : numV d.data.toList < 1
        · clear hv
          go_enter Tryz.func13, Tryz.ntmps13
          go_wp2_with fail
          refine (HP.out _).mono ?_
          rintro e w' ⟨rfl, rfl⟩
          go_wp2_with fail
          refine (number_any d _ hdz).mono ?_
          rintro e w' ⟨rfl, rfl⟩
          rw [HN.out]
          go_wp2_with fail
          exact bodyPost_ret (v := .tuple #[.agg #[.int .i64 0, .slice none 0 0], .int .i64 1]) (by simp [results, Tryz.results13, go_sem]) rfl ⟨by rw [H1.out], below_alloc _ _⟩
        · have hv2 : 24 < numV d.data.toList := by omega
          clear hv
          go_enter Tryz.func13, Tryz.ntmps13
          go_wp2_with fail
          refine (HP.out _).mono ?_
          rintro e w' ⟨rfl, rfl⟩
          go_wp2_with fail
          refine (number_any d _ hdz).mono ?_
          rintro e w' ⟨rfl, rfl⟩
          rw [HN.out]
          go_wp2_with fail
          exact bodyPost_ret (v := .tuple #[.agg #[.int .i64 0, .slice none 0 0], .int .i64 1]) (by simp [results, Tryz.results13, go_sem]) rfl ⟨by rw [H1.out], below_alloc _ _⟩
      · have H1 := Lib.hid (show readH s.data.toList = (numV d.data.toList, 0) by rw [HR.out, if_pos rfl, if_pos rfl, if_neg hv])
        obtain ⟨hv1, hv2⟩ : ¬ numV d.data.toList < 1 ∧ ¬ 24 < numV d.data.toList := by omega
        clear HR hv
        go_enter Tryz.func13, Tryz.ntmps13
        go_wp2_with fail
        refine (HP.out _).mono ?_
        rintro e w' ⟨rfl, rfl⟩
        go_wp2_with fail
        refine (number_any d _ hdz).mono ?_
        rintro e w' ⟨rfl, rfl⟩
        rw [HN.out]
        go_wp2_with fail
        exact bodyPost_ret (v := .tuple #[.agg #[.int .i64 (numV d.data.toList), .slice none 0 0], .int .i64 0]) (by simp [results, Tryz.results13, go_sem]) rfl ⟨by rw [H1.out], below_alloc _ _⟩
theorem splitK_len (sep : List UInt8) : ∀ (k : Nat) (l x : List UInt8), x ∈ Lib.splitK sep 0 k l → x.length ≤ l.length
  | 0, l, x, h => by simp [Lib.splitK] at h; subst h; exact Nat.le_refl _
  | k + 1, l, x, h => by
    unfold Lib.splitK at h
    split at h
    · simp at h; subst h; exact Nat.le_refl _
    · rcases List.mem_cons.1 h with rfl | h
      · simp; omega
      · have := splitK_len sep k _ x h
        simp at this
        omega
theorem words_len (l x : List UInt8) (h : x ∈ words l) : x.length ≤ l.length := splitK_len _ _ _ _ h
/-- The three numbers of a list of words. -/
def threeNums : List (List UInt8) → Option Ed
  | [a, b, c] => if numOk a && numOk b && numOk c then some (numV a, numV b, numV c) else none
  | _ => none
theorem three_eq (a b c : List UInt8) : threeNums [a, b, c] = if numOk a && numOk b && numOk c then some (numV a, numV b, numV c) else none := rfl
/-- The edge of a line. -/
def edgeNums (l : List UInt8) : Option Ed := if Lib.hasPrefix l edgeW then threeNums (words (Lib.trimPrefix l edgeW)) else none
def enW (w : World) (a b c : ByteArray) (x y z : Int) : World :=
  ((w.alloc (.cells #[.int .i64 0, .int .i64 0, .int .i64 0] 75)).alloc (.cells #[.int .i64 x, .int .i64 y, .int .i64 z] 75)).alloc (.cells #[.string a, .string b, .string c] 9)
def EnRel (w : World) (a b c : ByteArray) (i : Value) (W : World) : Prop :=
  (i = .int .i64 0 ∧ W = enW w a b c 0 0 0) ∨
  (i = .int .i64 1 ∧ numOk a.data.toList = true ∧ W = enW w a b c (numV a.data.toList) 0 0) ∨
  (i = .int .i64 2 ∧ numOk a.data.toList = true ∧ numOk b.data.toList = true ∧ W = enW w a b c (numV a.data.toList) (numV b.data.toList) 0) ∨
  (i = .int .i64 3 ∧ numOk a.data.toList = true ∧ numOk b.data.toList = true ∧ numOk c.data.toList = true ∧ W = enW w a b c (numV a.data.toList) (numV b.data.toList) (numV c.data.toList))
theorem en_fin (w : World) (a b c : ByteArray) (r x y : Array Value) (z : Array Value) (t1 t2 : TypeId) : Below w.heap.size w (((w.alloc (.cells r t1)).alloc (.cells x t1)).alloc (.cells z t2)) :=
  (((Below.refl _ _).alloc (Nat.le_refl _) _).alloc (by simp) _).alloc (by simp; omega) _
def EnPost (r : Option Ed) (w : World) (e : Ending) (w' : World) : Prop :=
  Below w.heap.size w w' ∧ ((∃ x y z : Int, r = some (x, y, z) ∧ e = .returned (.tuple #[.agg #[.int .i64 x, .int .i64 y, .int .i64 z], .bool true])) ∨ (∃ x y z : Int, r = none ∧ e = .returned (.tuple #[.agg #[.int .i64 x, .int .i64 y, .int .i64 z], .bool false])))
set_option maxHeartbeats 1000000 in
set_option maxRecDepth 100000 in
theorem edgeNumbers_any (s : ByteArray) (w : World) (hs : s.size ≤ 4000) : Calls Tryz.prog 27 #[.string s] w (EnPost (edgeNums s.data.toList) w) := by
  have HR : Hid (edgeNums s.data.toList = _) := Lib.hid (by unfold edgeNums; rfl)
  obtain ⟨d, hd⟩ : ∃ d : ByteArray, d = ⟨(Lib.trimPrefix s.data.toList edgeW).toArray⟩ := ⟨_, rfl⟩
  have hdl : d.data.toList = Lib.trimPrefix s.data.toList edgeW := by rw [hd]
  have hdz : d.size ≤ 4000 := by
    have := trim_len s.data.toList edgeW
    rw [Lib.size_eq, hdl]
    rw [Lib.size_eq] at hs
    omega
  have HP : Hid (∀ W : World, Calls Tryz.prog 25 #[.string s, .string ⟨#[101, 100, 103, 101, 32]⟩] W fun e w' => e = .returned (.tuple #[.string d, .bool (Lib.hasPrefix s.data.toList edgeW)]) ∧ W = w') := Lib.hid (fun W => by
    refine (prefix_any s ⟨#[101, 100, 103, 101, 32]⟩ W).mono ?_
    rintro e w' ⟨rfl, rfl⟩
    exact ⟨by rw [hd]; rfl, rfl⟩)
  rw [← hdl] at HR
  clear hd hdl
  rcases hp : Lib.hasPrefix s.data.toList edgeW with _ | _
  · rw [hp] at HR HP
    have H1 := Lib.hid (show edgeNums s.data.toList = none from HR.out)
    clear hp HR
    go_enter Tryz.func27, Tryz.ntmps27
    go_wp2_with fail
    refine (HP.out _).mono ?_
    rintro e w' ⟨rfl, rfl⟩
    go_wp2_with fail
    exact bodyPost_ret (v := .tuple #[.agg #[.int .i64 0, .int .i64 0, .int .i64 0], .bool false]) (by simp [results, Tryz.results27, go_sem]) rfl ⟨((Below.refl _ _).alloc (Nat.le_refl _) _).alloc (by simp) _, .inr ⟨0, 0, 0, H1.out, rfl⟩⟩
  · rw [hp] at HR HP
    clear hp
    have H1 := Lib.hid (show edgeNums s.data.toList = threeNums (words d.data.toList) from HR.out)
    clear HR
    go_enter Tryz.func27, Tryz.ntmps27
    go_wp2_with fail
    refine (HP.out _).mono ?_
    rintro e w' ⟨rfl, rfl⟩
    go_wp2_with fail
    refine (split_sp d _ hdz).mono ?_
    rintro e w' ⟨ws, rfl, hws, rfl⟩
    by_cases h3 : ws.length = 3
    · obtain ⟨a, b, c, rfl⟩ : ∃ a b c, ws = [a, b, c] := by
        match ws, h3 with
        | [a, b, c], _ => exact ⟨a, b, c, rfl⟩
      have H2 := Lib.hid (show edgeNums s.data.toList = threeNums [a.data.toList, b.data.toList, c.data.toList] by rw [H1.out, ← hws]; rfl)
      have sz : a.size ≤ 4000 ∧ b.size ≤ 4000 ∧ c.size ≤ 4000 := by
        have m : ∀ x : ByteArray, x ∈ [a, b, c] → x.size ≤ 4000 := fun x hx => by
          have h1 := words_len d.data.toList x.data.toList (by rw [← hws]; exact List.mem_map_of_mem hx)
          rw [← Lib.size_eq, ← Lib.size_eq] at h1
          omega
        exact ⟨m a (by simp), m b (by simp), m c (by simp)⟩
      obtain ⟨za, zb, zc⟩ := sz
      clear hws h3
      go_wp2_with fail
      go_loopw [26] (fun i W => EnRel w a b c i W) (fun i W => 3 - (intOf i).toNat)
      case atStart => exact .inl ⟨rfl, rfl⟩
      case round =>
        rcases hrel with ⟨rfl, rfl⟩ | ⟨rfl, ha, rfl⟩ | ⟨rfl, ha, hb, rfl⟩ | ⟨rfl, ha, hb, hc, rfl⟩
        · unfold enW
          rcases hn : numOk a.data.toList with _ | _
          · have HN := Lib.hid hn
            have HZ := Lib.hid (show edgeNums s.data.toList = none by rw [H2.out]; rw [three_eq, hn]; rfl)
            clear hn
            go_wp2_with fail
            refine (number_any a _ za).mono ?_
            rintro e w' ⟨rfl, rfl⟩
            rw [HN.out]
            go_wp2_with fail
            exact bodyPost_ret (v := .tuple #[.agg #[.int .i64 (numV a.data.toList), .int .i64 0, .int .i64 0], .bool false]) (by simp [results, Tryz.results27, go_sem]) rfl ⟨en_fin w a b c _ _ #[] _ _ _, .inr ⟨_, _, _, HZ.out, rfl⟩⟩
          · have HN := Lib.hid hn
            clear hn
            go_wp2_with fail
            refine (number_any a _ za).mono ?_
            rintro e w' ⟨rfl, rfl⟩
            rw [HN.out]
            go_wp2_with fail
            go_roundw
            case rel => exact .inr (.inl ⟨rfl, HN.out, rfl⟩)
            case measure => simp [intOf]
        · unfold enW
          have HNa := Lib.hid ha
          clear ha
          rcases hn : numOk b.data.toList with _ | _
          · have HN := Lib.hid hn
            have HZ := Lib.hid (show edgeNums s.data.toList = none by rw [H2.out]; rw [three_eq, hn]; simp)
            clear hn
            go_wp2_with fail
            refine (number_any b _ zb).mono ?_
            rintro e w' ⟨rfl, rfl⟩
            rw [HN.out]
            go_wp2_with fail
            exact bodyPost_ret (v := .tuple #[.agg #[.int .i64 (numV a.data.toList), .int .i64 (numV b.data.toList), .int .i64 0], .bool false]) (by simp [results, Tryz.results27, go_sem]) rfl ⟨en_fin w a b c _ _ #[] _ _ _, .inr ⟨_, _, _, HZ.out, rfl⟩⟩
          · have HN := Lib.hid hn
            clear hn
            go_wp2_with fail
            refine (number_any b _ zb).mono ?_
            rintro e w' ⟨rfl, rfl⟩
            rw [HN.out]
            go_wp2_with fail
            go_roundw
            case rel => exact .inr (.inr (.inl ⟨rfl, HNa.out, HN.out, rfl⟩))
            case measure => simp [intOf]
        · unfold enW
          have HNa := Lib.hid ha
          have HNb := Lib.hid hb
          clear ha hb
          rcases hn : numOk c.data.toList with _ | _
          · have HN := Lib.hid hn
            have HZ := Lib.hid (show edgeNums s.data.toList = none by rw [H2.out]; rw [three_eq, hn]; simp)
            clear hn
            go_wp2_with fail
            refine (number_any c _ zc).mono ?_
            rintro e w' ⟨rfl, rfl⟩
            rw [HN.out]
            go_wp2_with fail
            exact bodyPost_ret (v := .tuple #[.agg #[.int .i64 (numV a.data.toList), .int .i64 (numV b.data.toList), .int .i64 (numV c.data.toList)], .bool false]) (by simp [results, Tryz.results27, go_sem]) rfl ⟨en_fin w a b c _ _ #[] _ _ _, .inr ⟨_, _, _, HZ.out, rfl⟩⟩
          · have HN := Lib.hid hn
            clear hn
            go_wp2_with fail
            refine (number_any c _ zc).mono ?_
            rintro e w' ⟨rfl, rfl⟩
            rw [HN.out]
            go_wp2_with fail
            go_roundw
            case rel => exact .inr (.inr (.inr ⟨rfl, HNa.out, HNb.out, HN.out, rfl⟩))
            case measure => simp [intOf]
        · unfold enW
          have HZ := Lib.hid (show edgeNums s.data.toList = some (numV a.data.toList, numV b.data.toList, numV c.data.toList) by rw [H2.out]; rw [three_eq, ha, hb, hc]; rfl)
          clear ha hb hc
          go_wp2_with fail
          exact bodyPost_ret (v := .tuple #[.agg #[.int .i64 (numV a.data.toList), .int .i64 (numV b.data.toList), .int .i64 (numV c.data.toList)], .bool true]) (by simp [results, Tryz.results27, go_sem]) rfl ⟨en_fin w a b c _ _ #[] _ _ _, .inl ⟨_, _, _, HZ.out, rfl⟩⟩
    · have H2 := Lib.hid (show edgeNums s.data.toList = none by
        rw [H1.out, ← hws]
        match ws, h3 with
        | [], _ => rfl
        | [_], _ => rfl
        | [_, _], _ => rfl
        | [_, _, _], h => exact absurd rfl h
        | _ :: _ :: _ :: _ :: _, _ => rfl)
      have h3' : ((ws.length : Int) != 3) = true := by simp; omega
      clear hws h3
      go_wp2_with fail
      exact bodyPost_ret (v := .tuple #[.agg #[.int .i64 0, .int .i64 0, .int .i64 0], .bool false]) (by simp [results, Tryz.results27, go_sem]) rfl ⟨(((Below.refl _ _).alloc (Nat.le_refl _) _).alloc (by simp) _).alloc (by simp; omega) _, .inr ⟨0, 0, 0, H2.out, rfl⟩⟩
end Go.Proofs.YtpgdddjjjfkneaaGreatDoor
