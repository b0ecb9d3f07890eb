/-
  The contract of the document's own Digits; texts of graphs; a + b of two texts. No condition.
-/
import Derived.Test.YtcjghomjjnaddaaDoorWalksA
import Derived.Lib.ItoaLen
import Derived.Deep.RegionHeld3
namespace Go.Proofs.YtcjghomjjnaddaaDoor
open Go.RowKit
set_option linter.unusedVariables false

theorem ret_str {a b : ByteArray} (h : a = b) : Ending.returned (.string a) = .returned (.string b) := by rw [h]
theorem val_str {a b : ByteArray} (h : a = b) : Value.string a = .string b := by rw [h]
theorem str_app (a b : List UInt8) : (⟨a.toArray⟩ : ByteArray) ++ ⟨b.toArray⟩ = ⟨(a ++ b).toArray⟩ := by
  apply ByteArray.ext
  rw [ByteArray.data_append]
  simp

def DgRel (n : Nat) (w : World) (i s : Value) (W : World) : Prop :=
  ∃ (m : Nat) (l : List UInt8), i = .int .i64 m ∧ m ≤ n ∧ s = .string ⟨l.toArray⟩ ∧ Lib.decDigits m ++ l = Lib.decDigits n ∧ Below w.heap.size w W

set_option maxRecDepth 100000 in
theorem digits_any (n : Nat) (w : World) (hn : (n : Int) ≤ 9223372036854775807) :
    Calls Tryd.prog 19 #[.int .i64 n] w fun e w' => e = .returned (.string ⟨(Lib.decDigits n).toArray⟩) ∧ Below w.heap.size w w' := by
  go_enter Tryd.func19, Tryd.ntmps19
  go_wp2
  go_loopw [0, 3] (fun i s W => DgRel n w i s W) (fun i s W => (intOf i).toNat)
  case atStart => exact ⟨n, [], rfl, Nat.le_refl _, rfl, by simp, Below.refl _ _⟩
  case round =>
    obtain ⟨m, l, rfl, hm, rfl, hl, hb⟩ := hrel
    have HL := Lib.hid hl
    clear hl
    have hm0 : (m : Int) ≤ 9223372036854775807 := by omega
    have hm1 : (0 : Int) ≤ (m : Int) := by omega
    obtain ⟨d, hdd⟩ : ∃ d : UInt8, d = UInt8.ofNat (48 + m % 10) := ⟨_, rfl⟩
    have hd : (48 + (m : Int) % 10) = (d.toNat : Int) := by
      have : (UInt8.ofNat (48 + m % 10)).toNat = 48 + m % 10 := by rw [UInt8.toNat_ofNat']; omega
      rw [hdd, this]; omega
    have hc := run_str (P := Tryd.prog) (wr.alloc (.cells #[.int .u8 (48 + (m : Int) % 10)] 5)) (wr.heap.size + 1) 48 9 5 (some ⟨wr.heap.size, 0, none⟩) 1 1 [d] Tryd.underlying48 Tryd.underlying5 Tryd.underlying9
      (by rw [hd]; exact lies_new wr _ 5 _ (Nat.lt_succ_self _))
    have HD := Lib.hid hdd
    clear hd hdd
    have hb' : ∀ o, Below w.heap.size w (wr.alloc o) := fun o => hb.alloc hb.size o
    have hl9 : ¬ 9223372036854775807 < 1 + l.length := by
      have h1 := congrArg List.length HL.out
      have h2 := Lib.nDigits_le20 n (by omega)
      rw [List.length_append, Lib.decDigits_length, Lib.decDigits_length] at h1
      omega
    by_cases h10 : m < 10
    · have hq : ((m : Int) / 10 == 0) = true := by simp; omega
      have HE := Lib.hid (show d :: l = Lib.decDigits n by rw [← HL.out, Lib.decDigits_one h10, HD.out, Nat.mod_eq_of_lt h10]; rfl)
      go_wp2_with fail
      go_ret
      exact ⟨ret_str (by rw [← HE.out]; exact str_app [d] l), hb' _⟩
    · have hq : ((m : Int) / 10 == 0) = false := by simp; omega
      have HE := Lib.hid (show Lib.decDigits (m / 10) ++ (d :: l) = Lib.decDigits n by
        rw [← HL.out]
        conv => rhs; rw [Lib.decDigits, dif_neg h10]
        rw [HD.out, List.append_assoc]; rfl)
      go_wp2_with fail
      go_roundw
      case rel => exact ⟨m / 10, d :: l, by go_num, by omega, val_str (str_app [d] l), HE.out, hb' _⟩
      case measure => simp [intOf]; omega

/-! ### Texts -/

/-- The digits of a number. -/
def dec (n : Int) : List UInt8 := Lib.decDigits n.toNat
def line (e : Ed) : List UInt8 := [101, 100, 103, 101, 32] ++ (dec e.1 ++ ([32] ++ (dec e.2.1 ++ ([32] ++ (dec e.2.2 ++ [10])))))
def headL (N : Int) : List UInt8 := [103, 114, 97, 112, 104, 32] ++ (dec N ++ [10])
def lines (es : List Ed) : List UInt8 := es.flatMap line
def txt (N : Int) (es : List Ed) : List UInt8 := headL N ++ lines es

def okEd (N : Int) (e : Ed) : Prop := edge1 N e.1 e.2.1 e.2.2 = 0

theorem dec_len (n : Int) (h : n ≤ 4611686018427387904) : (dec n).length ≤ 20 := by
  unfold dec
  rw [Lib.decDigits_length]
  exact Lib.nDigits_le20 _ (by omega)

theorem line_len (N : Int) (e : Ed) (hN : N ≤ 24) (h : okEd N e) : (line e).length ≤ 68 := by
  obtain ⟨h1, h2, h3, h4, h5, h6⟩ := edge1_zero.1 h
  unfold line
  simp only [List.length_append, List.length_cons, List.length_nil]
  have := dec_len e.1 (by omega)
  have := dec_len e.2.1 (by omega)
  have := dec_len e.2.2 (by omega)
  omega

theorem lines_len (N : Int) (hN : N ≤ 24) : ∀ (es : List Ed), (∀ e ∈ es, okEd N e) → (lines es).length ≤ 68 * es.length
  | [], _ => by simp [lines]
  | e :: r, h => by
    have h1 := line_len N e hN (h e (by simp))
    have h2 := lines_len N hN r (fun x hx => h x (by simp [hx]))
    unfold lines at h2 ⊢
    rw [List.flatMap_cons, List.length_append, List.length_cons]
    omega

theorem lines_take (es : List Ed) (k : Nat) (h : k < es.length) : lines (es.take (k + 1)) = lines (es.take k) ++ line (eAt es k) := by
  unfold lines
  rw [List.take_succ_eq_append_getElem h, List.flatMap_append]
  simp [eAt, h]

/-- a + b of two texts. -/
theorem cat_ex (a b : ByteArray) (la lb : List UInt8) (ha : a = ⟨la.toArray⟩) (hb : b = ⟨lb.toArray⟩) (hl : la.length + lb.length ≤ 1000000) :
    ∃ c : ByteArray, (∀ W, (binOp .add 9 (.string a) (.string b)).run Tryd.prog W = .ok (.string c) W) ∧ c = ⟨(la ++ lb).toArray⟩ := by
  refine ⟨a ++ b, fun W => ?_, by rw [ha, hb]; exact str_app la lb⟩
  have h1 : ¬ 9223372036854775807 < a.size + b.size := by
    have ea : a.size = la.length := by rw [ha]; simp [ByteArray.size]
    have eb : b.size = lb.length := by rw [hb]; simp [ByteArray.size]
    omega
  simp [go_sem, h1]

end Go.Proofs.YtcjghomjjnaddaaDoor
