/-
  Contracts of strings.Cut at a line feed, strings.Split at a blank, strings.CutPrefix, strconv.Itoa, strconv.FormatInt, out of the library's own. Conditions: as each states.
-/
import Derived.Test.YtcjghomjjnaddaaDoorWalksE
import Derived.Test.YtcjghomjjnaddaaDoorShelf
import Derived.Lib.CutLaws
import Derived.Lib.SmallJoins
import Derived.Deep.Draws
import Derived.BigQuiet
namespace Go.Proofs.YtcjghomjjnaddaaDoor
open Go.RowKit Go.Sort
set_option linter.unusedVariables false

/-- What the calls ask of the memory in which they begin: Go's own table of powers of ten lies there. -/
def Gr (w : World) : Prop := Lib.TabIs Tryd.prog w "internal/strconv.uint64pow10" .u64 Lib.pow10Tab
theorem Gr.next {w w' : World} (h : Gr w) (hb : Below w.heap.size w w') : Gr w' := Go.Joins.tab_stays (show Tryd.prog.globalNamed "internal/strconv.uint64pow10" = some 0 by kernel_rfl) h hb (Nat.le_refl _)

theorem below_grow' (w : World) (k : Nat) (os : Array Obj) : Below w.heap.size w (grow (w.drewN k) os) :=
  ⟨rfl, rfl, rfl, by simp [grow], fun j hj => by simp [grow, Array.getElem?_append, hj]⟩

/-! ### lines -/
def cutA (l : List UInt8) : List UInt8 := l.takeWhile (· != 10)
def cutB (l : List UInt8) : List UInt8 := (l.dropWhile (· != 10)).drop 1

theorem cut_ix : ∀ l : List UInt8, (Lib.indexByte l 10 = -1 ∧ cutA l = l ∧ cutB l = []) ∨ ∃ i : Nat, Lib.indexByte l 10 = i ∧ i < l.length ∧ cutA l = l.take i ∧ cutB l = l.drop (i + 1)
  | [] => .inl ⟨rfl, rfl, rfl⟩
  | b :: l => by
    by_cases hb : b = 10
    · subst hb
      exact .inr ⟨0, by simp [Lib.indexByte], by simp, by simp [cutA], by simp [cutB]⟩
    · have hb1 : (b == 10) = false := by simpa using hb
      have hb2 : (b != 10) = true := by simpa using hb
      have eA : cutA (b :: l) = b :: cutA l := by unfold cutA; rw [List.takeWhile_cons, if_pos hb2]
      have eB : cutB (b :: l) = cutB l := by unfold cutB; rw [List.dropWhile_cons, if_pos hb2]
      rcases cut_ix l with ⟨h1, h2, h3⟩ | ⟨i, h1, h2, h3, h4⟩
      · refine .inl ⟨?_, by rw [eA, h2], by rw [eB, h3]⟩
        unfold Lib.indexByte
        rw [hb1, h1]; try rfl
      · refine .inr ⟨i + 1, ?_, by simpa using h2, by rw [eA, h3]; rfl, by rw [eB, h4]; rfl⟩
        unfold Lib.indexByte
        have : ((i : Int) == -1) = false := by rw [beq_eq_false_iff_ne]; omega
        simp [hb1, h1, this]

theorem cutB_len (l : List UInt8) : (cutB l).length ≤ l.length - 1 := by
  rcases cut_ix l with ⟨_, _, h⟩ | ⟨i, _, h1, _, h⟩
  · rw [h]; simp
  · rw [h, List.length_drop]; omega
theorem cutA_len (l : List UInt8) : (cutA l).length ≤ l.length := by
  rcases cut_ix l with ⟨_, h, _⟩ | ⟨i, _, h1, h, _⟩
  · rw [h]; omega
  · rw [h, List.length_take]; omega

theorem ext_to (l : List UInt8) (i : Nat) : (⟨l.toArray⟩ : ByteArray).extract 0 i = ⟨(l.take i).toArray⟩ := by
  apply ByteArray.ext; simp
theorem ext_from (l : List UInt8) (i : Nat) : (⟨l.toArray⟩ : ByteArray).extract i (⟨l.toArray⟩ : ByteArray).size = ⟨(l.drop i).toArray⟩ := by
  apply ByteArray.ext
  simp only [ByteArray.data_extract, ByteArray.size, List.size_toArray, List.extract_toArray, List.extract_eq_take_drop]
  rw [List.take_of_length_le (by simp)]

theorem index1 (s : ByteArray) (c : UInt8) (w : World) : Calls Tryd.prog 46 #[.string s, .string ⟨#[c]⟩] w fun e w' => e = .returned (.int .i64 (Lib.indexByte s.data.toList c)) ∧ w = w' :=
  (Tryd.stringslite_Index_one s c w).mono fun _ _ ⟨a, b⟩ => ⟨a, b.symm⟩

set_option maxRecDepth 100000 in
theorem cutLite (l : List UInt8) (w : World) (hl : l.length ≤ 4000) : Calls Tryd.prog 34 #[.string ⟨l.toArray⟩, .string ⟨#[10]⟩] w fun e w' => ∃ a b c, e = .returned (.tuple #[.string a, .string b, .bool c]) ∧ a = ⟨(cutA l).toArray⟩ ∧ b = ⟨(cutB l).toArray⟩ ∧ Below w.heap.size w w' := by
  rcases cut_ix l with ⟨h1, h2, h3⟩ | ⟨i, h1, hi, h2, h3⟩
  · have HA := Lib.hid h2
    have HB := Lib.hid h3
    have HI := Lib.hid h1
    clear h1 h2 h3
    go_enter Tryd.func34, Tryd.ntmps34
    go_wp2_with ((go_at_call 46; (with_reducible refine (index1 _ _ _).mono ?_); rintro e w' ⟨rfl, rfl⟩; rw [HI.out]))
    go_ret3
    exact ⟨_, _, _, rfl, by rw [HA.out], by rw [HB.out], Below.refl _ _⟩
  · obtain ⟨s, hs⟩ : ∃ s : ByteArray, s = ⟨l.toArray⟩ := ⟨_, rfl⟩
    have hz : s.size = l.length := by rw [hs]; simp [ByteArray.size]
    have hI : Lib.indexByte s.data.toList 10 = (i : Int) := by rw [hs]; exact h1
    have e1 : s.extract 0 i = ⟨(cutA l).toArray⟩ := by rw [hs, ext_to, h2]
    have e2 : s.extract (i + 1) s.size = ⟨(cutB l).toArray⟩ := by rw [hs, ext_from, h3]
    rw [← hs]
    have c1 : (0 : Int) ≤ ↑i := by omega
    have c2 : (↑i : Int) ≤ ↑s.size := by omega
    have c3 : (0 : Int) ≤ ↑i + 1 := by omega
    have c4 : (↑i + 1 : Int) ≤ ↑s.size := by omega
    have c5 : (↑i : Int) < 4000 := by omega
    have HI := Lib.hid hI
    have HA := Lib.hid e1
    have HB := Lib.hid e2
    clear hs hz h1 h2 h3 hI e1 e2
    go_enter Tryd.func34, Tryd.ntmps34
    go_wp2_with ((go_at_call 46; (with_reducible refine (index1 _ _ _).mono ?_); rintro e w' ⟨rfl, rfl⟩; rw [HI.out]))
    go_quiet (fail)
    go_wp2_with fail
    go_ret3
    exact ⟨_, _, _, rfl, HA.out, HB.out, below_to_drewN (Below.refl _ _) _⟩

theorem cut_nl (s : ByteArray) (l : List UInt8) (w : World) (hs : s = ⟨l.toArray⟩) (hl : l.length ≤ 4000) : Calls Tryd.prog 26 #[.string s, .string ⟨#[10]⟩] w fun e w' => ∃ a b c, e = .returned (.tuple #[.string a, .string b, .bool c]) ∧ a = ⟨(cutA l).toArray⟩ ∧ b = ⟨(cutB l).toArray⟩ ∧ Below w.heap.size w w' := by
  subst hs
  go_enter Tryd.func26, Tryd.ntmps26
  go_wp2_with fail
  refine (cutLite l _ hl).mono ?_
  rintro e w1 ⟨a, b, c, rfl, ha, hb, hw⟩
  have HA := Lib.hid ha
  have HB := Lib.hid hb
  clear ha hb
  go_wp2_with fail
  go_ret3
  exact ⟨_, _, _, rfl, HA.out, HB.out, hw⟩

/-! ### words -/
theorem count1 (s : ByteArray) (w : World) : Calls Tryd.prog 68 #[.string s, .string ⟨#[32]⟩] w fun e w' => e = .returned (.int .i64 (Lib.countB s ⟨#[32]⟩)) ∧ w' = w := by
  refine (Tryd.strings_Count_one s 32 w).mono fun e w' ⟨he, hw⟩ => ⟨?_, hw⟩
  rw [he]
  show _ = Ending.returned (Value.int .i64 ((Lib.count s.data.toList [32] : Nat) : Int))
  rw [Lib.count_one]
  rfl

theorem index2 (s : ByteArray) (w : World) : Calls Tryd.prog 69 #[.string s, .string ⟨#[32]⟩] w fun e w' => e = .returned (.int .i64 (Lib.indexB s ⟨#[32]⟩)) ∧ w' = w := by
  refine (Tryd.strings_Index_one s 32 w).mono fun e w' ⟨he, hw⟩ => ⟨?_, hw⟩
  rw [he]
  show _ = Ending.returned (Value.int .i64 (Lib.index s.data.toList [32]))
  rw [Lib.index_one]

/-- The words of a text. -/
def words (l : List UInt8) : List (List UInt8) := Lib.split l [32]

theorem splitB_words (s : ByteArray) : (Lib.splitB ⟨#[32]⟩ 0 (Lib.countB s ⟨#[32]⟩) s).map (·.data.toList) = words s.data.toList := Lib.splitB_data _ _ _ _

set_option maxHeartbeats 1000000 in
theorem split_sp (s : ByteArray) (w : World) (hs : s.size ≤ 4000) :
    Calls Tryd.prog 48 #[.string s, .string ⟨#[32]⟩] w fun e w' => ∃ ws : List ByteArray, e = .returned (.slice (some ⟨w.heap.size, 0, none⟩) ws.length ws.length) ∧ ws.map (·.data.toList) = words s.data.toList ∧ w.alloc (.cells (ws.map Value.string).toArray 9) = w' := by
  have hlen := Lib.splitB_all ⟨#[32]⟩ (by decide) 0 _ s rfl
  have hle := Lib.countB_le ⟨#[32]⟩ (by decide) s.size s (Nat.le_refl _)
  have c := Any.strings_genSplit_core Tryd.lays221 (show (Tryd.prog.info? 9).map (fun i => (i.zero, i.size, i.bytes)) = some (some (.string ByteArray.empty), 1, 16) by kernel_rfl) s ⟨#[32]⟩ 0 (-1) (Lib.countB s ⟨#[32]⟩ + 1) w (by omega) (by decide) (Nat.zero_le _)
    (fun x c hx => index2 x _) (count1 s w) (by decide) (by decide) (by rw [if_pos (by decide)]; omega)
  rw [Nat.add_sub_cancel, hlen] at c
  have e2 : Lib.cellsOf (Lib.splitB ⟨#[32]⟩ 0 (Lib.countB s ⟨#[32]⟩) s) (Lib.countB s ⟨#[32]⟩ + 1) = ((Lib.splitB ⟨#[32]⟩ 0 (Lib.countB s ⟨#[32]⟩) s).map Value.string).toArray := by rw [← hlen]; exact Lib.cellsOf_full _
  rw [e2] at c
  have C := Lib.hid c
  have HL := Lib.hid hlen
  clear c e2 hlen hle
  go_enter Tryd.func48, Tryd.ntmps48
  go_wp2_with fail
  refine C.out.mono ?_
  rintro e w' ⟨rfl, hw⟩
  have HW := Lib.hid hw
  clear hw
  go_wp2_with fail
  go_ret
  exact ⟨Lib.splitB ⟨#[32]⟩ 0 (Lib.countB s ⟨#[32]⟩) s, by rw [HL.out]; rfl, splitB_words s, HW.out.symm⟩

theorem prefix_any (s p : ByteArray) (w : World) :
    Calls Tryd.prog 35 #[.string s, .string p] w fun e w' => e = .returned (.tuple #[.string ⟨(Lib.trimPrefix s.data.toList p.data.toList).toArray⟩, .bool (Lib.hasPrefix s.data.toList p.data.toList)]) ∧ w = w' :=
  (Tryd.strings_CutPrefix s p w).mono fun _ _ ⟨a, b⟩ => ⟨a, b.symm⟩

theorem itoa_still (n : Int) (d : ByteArray) (w : World) (h0 : 0 ≤ n) (h1 : n < 100) (hd : d = ⟨(dec n).toArray⟩) : Calls Tryd.prog 23 #[.int .i64 n] w fun e w' => e = .returned (.string d) ∧ w' = w := by
  obtain ⟨m, rfl⟩ : ∃ m : Nat, n = m := ⟨n.toNat, by omega⟩
  subst hd
  exact Tryd.strconv_Itoa_small m (by omega) w

theorem format_any (n : Int) (d : ByteArray) (w : World) (hg : Gr w) (h0 : 0 ≤ n) (h1 : n ≤ 4611686018427387904) (hd : d = ⟨(dec n).toArray⟩) : Calls Tryd.prog 24 #[.int .i64 n, .int .i64 10] w fun e w' => e = .returned (.string d) ∧ Below w.heap.size w w' := by
  refine (Tryd.strconv_FormatInt_10 n (by omega) (by omega) w hg).mono ?_
  rintro e w' ⟨rfl, k, os, rfl⟩
  refine ⟨?_, below_grow' w k os⟩
  rw [hd]
  unfold dec Lib.itoa
  rw [if_neg (by omega)]

end Go.Proofs.YtcjghomjjnaddaaDoor
