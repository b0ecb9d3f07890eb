import Derived.Test.YtgaebjnmcgmkfaaLa
import Derived.Test.YtgaebjnmcgmkfaaLm
/-
  The contracts of lease.firstOutside, from, Until, Free, Holds and Gone. No condition but that numbers are numbers of 64 bits, and that firstOutside's list has at most a million.
-/
namespace Go.Proofs.Ytgaebjnmcgmkfaa
open Go.ChangeShapes Go.WideShapes Go.ChangeAt Go.RowKit
set_option linter.unusedVariables false

/-- The place of the first number that is not from lo to hi, or how many there are. -/
def foN (lo hi : Int) : List Int → Nat
  | [] => 0
  | x :: r => if x < lo ∨ hi < x then 0 else foN lo hi r + 1
theorem foN_out {lo hi x : Int} {r : List Int} (h : x < lo ∨ hi < x) : foN lo hi (x :: r) = 0 := if_pos h
theorem foN_in {lo hi x : Int} {r : List Int} (h : ¬ (x < lo ∨ hi < x)) : foN lo hi (x :: r) = foN lo hi r + 1 := if_neg h
def FoRel (lo hi : Int) (l : List Int) (w : World) (i : Value) (W : World) : Prop := ∃ k : Nat, i = .int .i64 k ∧ k ≤ l.length ∧ Hid (foN lo hi l = k + foN lo hi (l.drop k)) ∧ W = w
set_option maxHeartbeats 1000000 in
theorem first_any (lo hi : Int) (A : Option Addr) (c : Nat) (l : List Int) (w : World) (hA : Lies w w.heap.size 1 A l.length (vc l)) (hn : l.length ≤ 1000000) :
    Calls Try.prog 17 #[.int .i64 lo, .int .i64 hi, .slice A l.length c] w fun e w' => e = .returned (.int .i64 (foN lo hi l)) ∧ w = w' := by
  have HA := Lib.hid hA
  clear hA
  go_enter Try.func17, Try.ntmps17
  go_wp2_with fail
  go_loopw [11] (fun i W => FoRel lo hi l w i W) (fun i W => l.length - (intOf i).toNat)
  case atStart => exact ⟨0, rfl, Nat.zero_le _, Lib.hid (by simp), rfl⟩
  case round =>
    obtain ⟨k, rfl, hk, HP, rfl⟩ := hrel
    by_cases hlt : k < l.length
    · obtain ⟨ad, rfl, hadb, e0⟩ := HA.out.vs k hlt
      have hkl : (k : Int) < (l.length : Int) := by omega
      have HD := Lib.hid (idrop_at l k hlt)
      by_cases h1 : iAt l k < lo
      · have HT := Lib.hid (show ((foN lo hi l : Nat) : Int) = (k : Int) by rw [HP.out, HD.out, foN_out (.inl h1)]; simp)
        go_wp2_with fail
        go_ret
        exact ⟨ret_int HT.out.symm, rfl⟩
      · by_cases h2 : hi < iAt l k
        · have HT := Lib.hid (show ((foN lo hi l : Nat) : Int) = (k : Int) by rw [HP.out, HD.out, foN_out (.inr h2)]; simp)
          go_wp2_with fail
          go_ret
          exact ⟨ret_int HT.out.symm, rfl⟩
        · have HT := Lib.hid (show foN lo hi l = (k + 1) + foN lo hi (l.drop (k + 1)) by rw [HP.out, HD.out, foN_in (by omega)]; omega)
          go_wp2_with fail
          go_roundw
          case rel => exact ⟨k + 1, by go_num, by omega, HT, rfl⟩
          case measure => simp [intOf]; omega
    · have hk' : k = l.length := by omega
      subst hk'
      have HT := Lib.hid (show ((foN lo hi l : Nat) : Int) = (l.length : Int) by rw [HP.out, List.drop_length]; simp [foN])
      go_wp2_with fail
      go_ret
      exact ⟨ret_int HT.out.symm, rfl⟩
theorem holds_any (a b : Int) (w : World) : Calls Try.prog 14 #[.int .i64 a, .int .i64 b] w fun e w' => e = .returned (.bool (decide (a < b))) ∧ w = w' := by
  by_cases h : a < b
  all_goals
    go_enter Try.func14, Try.ntmps14
    go_wp2_with fail
    go_ret
    exact ⟨by simp [h], rfl⟩
theorem gone_any (a b : Int) (w : World) : Calls Try.prog 15 #[.int .i64 a, .int .i64 b] w fun e w' => e = .returned (.bool (decide (b ≤ a))) ∧ w = w' := by
  by_cases h : b ≤ a
  all_goals
    go_enter Try.func15, Try.ntmps15
    go_wp2_with fail
    go_ret
    exact ⟨by simp [h], rfl⟩

/-- What is told of a moment m, a lease of n ticks and k eighths. -/
def tell (m n k : Int) : Int × Int := if m < 0 ∨ 1099511627776 < m ∨ n < 1 ∨ 1000 < n then (0, 1) else if 1099511627776 < m + k then (0, 8) else (m + k, 0)
theorem tell_arg {m n k : Int} (h : m < 0 ∨ 1099511627776 < m ∨ n < 1 ∨ 1000 < n) : tell m n k = (0, 1) := if_pos h
theorem tell_over {m n k : Int} (h : ¬ (m < 0 ∨ 1099511627776 < m ∨ n < 1 ∨ 1000 < n)) (g : 1099511627776 < m + k) : tell m n k = (0, 8) := by unfold tell; rw [if_neg h, if_pos g]
theorem tell_ok {m n k : Int} (h : ¬ (m < 0 ∨ 1099511627776 < m ∨ n < 1 ∨ 1000 < n)) (g : ¬ 1099511627776 < m + k) : tell m n k = (m + k, 0) := by unfold tell; rw [if_neg h, if_neg g]
def TlPost (m n k : Int) (w : World) (e : Ending) (w' : World) : Prop := e = .returned (.tuple #[.int .i64 (tell m n k).1, .int .i64 (tell m n k).2]) ∧ Below w.heap.size w w'
theorem tl_of {m n k a b : Int} {w w' : World} (h : tell m n k = (a, b)) (hb : Below w.heap.size w w') : TlPost m n k w (.returned (.tuple #[.int .i64 a, .int .i64 b])) w' := by
  unfold TlPost; rw [h]; exact ⟨rfl, hb⟩
set_option maxHeartbeats 2000000 in
theorem from_any (m n k : Int) (w : World) (hk : 1 ≤ n → n ≤ 1000 → 0 ≤ k ∧ k ≤ 100000) (k1 : -9223372036854775808 ≤ k) (k2 : k ≤ 9223372036854775807) (m1 : -9223372036854775808 ≤ m) (m2 : m ≤ 9223372036854775807) :
    Calls Try.prog 16 #[.int .i64 m, .int .i64 n, .int .i64 k] w (TlPost m n k w) := by
  obtain ⟨x, hx⟩ : ∃ x, x = wrap64 (m + k) := ⟨_, rfl⟩
  have C1 := Lib.hid (fun (W : World) (b : Nat) (hb : b = W.heap.size) => first_any 0 1099511627776 (some ⟨b, 0, none⟩) 2 [m, x] (W.alloc (.cells #[.int .i64 m, .int .i64 x] 3)) (by subst hb; exact lies_row W #[.int .i64 m, .int .i64 x] 3 (0, 0) 2 rfl _ (by simp)) (by simp))
  have C2 := Lib.hid (fun (W : World) (b : Nat) (hb : b = W.heap.size) => first_any 1 1000 (some ⟨b, 0, none⟩) 1 [n] (W.alloc (.cells #[.int .i64 n] 3)) (by subst hb; exact lies_row W #[.int .i64 n] 3 (0, 0) 1 rfl _ (by simp)) (by simp))
  by_cases hm : m < 0 ∨ 1099511627776 < m
  · have HT := Lib.hid (tell_arg (k := k) (show m < 0 ∨ 1099511627776 < m ∨ n < 1 ∨ 1000 < n by omega))
    have HF := Lib.hid (foN_out (r := [x]) hm)
    clear hm hk
    go_enter Try.func16, Try.ntmps16
    go_wp2_with fail
    rw [← hx]
    clear hx
    refine (C1.out _ _ (by simp)).mono ?_
    rintro e w1 ⟨rfl, rfl⟩
    rw [HF.out]
    go_wp2_with fail
    go_ret2
    exact tl_of HT.out (below_alloc _ _)
  · have HF := Lib.hid (foN_in (r := [x]) hm)
    by_cases hn : n < 1 ∨ 1000 < n
    · have HT := Lib.hid (tell_arg (k := k) (show m < 0 ∨ 1099511627776 < m ∨ n < 1 ∨ 1000 < n by omega))
      have HG := Lib.hid (foN_out (r := []) hn)
      obtain ⟨q, hq⟩ : ∃ q, q = foN 0 1099511627776 [m, x] := ⟨_, rfl⟩
      have hq0 : ((q : Int) == 0) = false := by rw [hq, HF.out]; simp; omega
      have HQ := Lib.hid hq
      clear hm hk hn hq
      go_enter Try.func16, Try.ntmps16
      go_wp2_with fail
      rw [← hx]
      clear hx
      refine (C1.out _ _ (by simp)).mono ?_
      rintro e w1 ⟨rfl, rfl⟩
      rw [← HQ.out]
      go_wp2_with fail
      refine (C2.out _ _ (by simp)).mono ?_
      rintro e w1 ⟨rfl, rfl⟩
      rw [HG.out]
      go_wp2_with fail
      go_ret2
      exact tl_of HT.out ((below_alloc _ _).alloc (by simp) _)
    · have HG := Lib.hid (show foN 1 1000 [n] = 1 by rw [foN_in hn]; rfl)
      obtain ⟨k3, k4⟩ := hk (by omega) (by omega)
      have hxk : x = m + k := by rw [hx]; unfold wrap64; omega
      clear hk
      by_cases hov : 1099511627776 < m + k
      · have HT := Lib.hid (tell_over (show ¬ (m < 0 ∨ 1099511627776 < m ∨ n < 1 ∨ 1000 < n) by omega) hov)
        have HF1 := Lib.hid (show foN 0 1099511627776 [m, x] = 1 by rw [HF.out, foN_out (by omega)])
        clear hm hn hov hxk
        go_enter Try.func16, Try.ntmps16
        go_wp2_with fail
        rw [← hx]
        clear hx
        refine (C1.out _ _ (by simp)).mono ?_
        rintro e w1 ⟨rfl, rfl⟩
        rw [HF1.out]
        go_wp2_with fail
        refine (C2.out _ _ (by simp)).mono ?_
        rintro e w1 ⟨rfl, rfl⟩
        rw [HG.out]
        go_wp2_with fail
        go_ret2
        exact tl_of HT.out ((below_alloc _ _).alloc (by simp) _)
      · have HT := Lib.hid (show tell m n k = (x, 0) by rw [hxk]; exact tell_ok (by omega) hov)
        have HF1 := Lib.hid (show foN 0 1099511627776 [m, x] = 2 by rw [HF.out, foN_in (by omega)]; rfl)
        clear hm hn hov hxk
        go_enter Try.func16, Try.ntmps16
        go_wp2_with fail
        rw [← hx]
        clear hx
        refine (C1.out _ _ (by simp)).mono ?_
        rintro e w1 ⟨rfl, rfl⟩
        rw [HF1.out]
        go_wp2_with fail
        refine (C2.out _ _ (by simp)).mono ?_
        rintro e w1 ⟨rfl, rfl⟩
        rw [HG.out]
        go_wp2_with fail
        go_ret2
        exact tl_of HT.out ((below_alloc _ _).alloc (by simp) _)
theorem wrap_in {x : Int} (h : -9223372036854775808 ≤ x) (g : x ≤ 9223372036854775807) : wrap64 x = x := by unfold wrap64; omega
theorem wrap_lo (x : Int) : -9223372036854775808 ≤ wrap64 x := by unfold wrap64; omega
theorem wrap_hi (x : Int) : wrap64 x ≤ 9223372036854775807 := by unfold wrap64; omega
theorem tell_k {m n k k' : Int} (h : 1 ≤ n → n ≤ 1000 → k = k') : tell m n k = tell m n k' := by
  by_cases g : m < 0 ∨ 1099511627776 < m ∨ n < 1 ∨ 1000 < n
  · rw [tell_arg g, tell_arg g]
  · rw [h (by omega) (by omega)]
theorem until_any (m n : Int) (w : World) (m1 : -9223372036854775808 ≤ m) (m2 : m ≤ 9223372036854775807) :
    Calls Try.prog 9 #[.int .i64 m, .int .i64 n] w (TlPost m n (8 * n) w) := by
  have HT := Lib.hid (tell_k (m := m) (n := n) (k := wrap64 (8 * n)) (k' := 8 * n) (fun h1 h2 => wrap_in (by omega) (by omega)))
  have C := Lib.hid (from_any m n (wrap64 (8 * n)) w (fun h1 h2 => by rw [wrap_in (by omega) (by omega)]; omega) (wrap_lo _) (wrap_hi _) m1 m2)
  go_enter Try.func9, Try.ntmps9
  go_wp2_with fail
  refine C.out.mono ?_
  rintro e w1 ⟨rfl, hb⟩
  rw [HT.out]
  have HB := Lib.hid hb
  clear hb
  go_wp2_with fail
  go_ret2
  exact ⟨rfl, HB.out⟩
theorem free_any (m n : Int) (w : World) (m1 : -9223372036854775808 ≤ m) (m2 : m ≤ 9223372036854775807) :
    Calls Try.prog 11 #[.int .i64 m, .int .i64 n] w (TlPost m n (cl n) w) := by
  have hc : 1 ≤ n → n ≤ 1000 → wrap64 ((wrap64 (wrap64 (wrap64 (72 * n) + 7) - 1)).tdiv 7) = cl n := by
    intro h1 h2
    have h3 := cl_most h2
    have h4 := (cl_pos h1).1
    rw [wrap_in (x := 72 * n) (by omega) (by omega), wrap_in (x := 72 * n + 7) (by omega) (by omega), wrap_in (x := 72 * n + 7 - 1) (by omega) (by omega), show 72 * n + 7 - 1 = 72 * n + 6 by omega, cl_tdiv (by omega)]
    exact wrap_in (by omega) (by omega)
  have HT := Lib.hid (tell_k (m := m) hc)
  have C := Lib.hid (from_any m n (wrap64 ((wrap64 (wrap64 (wrap64 (72 * n) + 7) - 1)).tdiv 7)) w (fun h1 h2 => by rw [hc h1 h2]; have := cl_most h2; have := (cl_pos h1).1; omega) (wrap_lo _) (wrap_hi _) m1 m2)
  clear hc
  go_enter Try.func11, Try.ntmps11
  go_wp2_with fail
  refine C.out.mono ?_
  rintro e w1 ⟨rfl, hb⟩
  rw [HT.out]
  have HB := Lib.hid hb
  clear hb
  go_wp2_with fail
  go_ret2
  exact ⟨rfl, HB.out⟩
end Go.Proofs.Ytgaebjnmcgmkfaa
