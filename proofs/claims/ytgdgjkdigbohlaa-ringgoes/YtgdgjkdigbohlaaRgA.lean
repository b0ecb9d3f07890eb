import Derived.Test.YtgdgjkdigbohlaaRgM
import Derived.Laws.BitsAllLaws
/-
  The contracts of ring.Mix, upper, Place, Key, earlier and of the document's own Mix, Place, Key. No condition but that the numbers are of their kinds.
-/
namespace Go.Proofs.Ytgdgjkdigbohlaa
open Go.ChangeShapes Go.WideShapes Go.ChangeAt Go.RowKit
set_option linter.unusedVariables false

def bd (a : Int) : Prop := -9223372036854775808 ≤ a ∧ a ≤ 9223372036854775807
theorem ret_bool {a b : Bool} (h : a = b) : Ending.returned (.bool a) = .returned (.bool b) := by rw [h]
theorem xor_dn (x s : Nat) (h : x < 18446744073709551616) : bits .xor .u64 (x : Int) ((x : Int) / (s : Int)) = ((xs x s : Nat) : Int) := xorShift_u64 x s h
theorem mul_wr (x m : Nat) : IntKind.u64.wrap ((x : Int) * (m : Int)) = ((x * m % 18446744073709551616 : Nat) : Int) := by
  rw [IntKind.wrap_u64, ← Int.natCast_mul]; omega
theorem mix_eq (x : Nat) (h : x < 18446744073709551616) :
    bits .xor .u64 (IntKind.u64.wrap (bits .xor .u64 (IntKind.u64.wrap (bits .xor .u64 (x : Int) ((x : Int) / 1073741824) * 13787848793156543929)) (IntKind.u64.wrap (bits .xor .u64 (x : Int) ((x : Int) / 1073741824) * 13787848793156543929) / 134217728) * 10723151780598845931))
      (IntKind.u64.wrap (bits .xor .u64 (IntKind.u64.wrap (bits .xor .u64 (x : Int) ((x : Int) / 1073741824) * 13787848793156543929)) (IntKind.u64.wrap (bits .xor .u64 (x : Int) ((x : Int) / 1073741824) * 13787848793156543929) / 134217728) * 10723151780598845931) / 2147483648) = ((mixN x : Nat) : Int) := by
  rw [show bits .xor .u64 (x : Int) ((x : Int) / 1073741824) = ((xs x 1073741824 : Nat) : Int) from xor_dn x 1073741824 h]
  rw [show IntKind.u64.wrap (((xs x 1073741824 : Nat) : Int) * 13787848793156543929) = ((mixA x : Nat) : Int) from mul_wr _ 13787848793156543929]
  rw [show bits .xor .u64 ((mixA x : Nat) : Int) (((mixA x : Nat) : Int) / 134217728) = ((xs (mixA x) 134217728 : Nat) : Int) from xor_dn _ 134217728 (mixA_lt x)]
  rw [show IntKind.u64.wrap (((xs (mixA x) 134217728 : Nat) : Int) * 10723151780598845931) = ((mixB (mixA x) : Nat) : Int) from mul_wr _ 10723151780598845931]
  exact xor_dn _ 2147483648 (mixB_lt _)
theorem mix_any (x : Nat) (w : World) (h : x < 18446744073709551616) : Calls Try.prog 9 #[.int .u64 (x : Int)] w fun e w' => e = .returned (.int .u64 ((mixN x : Nat) : Int)) ∧ w = w' := by
  have H := Lib.hid (mix_eq x h)
  clear h
  go_enter Try.func9, Try.ntmps9
  go_wp2
  go_ret
  exact ⟨ret_int H.out, rfl⟩
theorem quo_w (x s : Nat) (h : x < 18446744073709551616) : IntKind.u64.wrap ((x : Int) / (s : Int)) = (x : Int) / (s : Int) := by
  rw [← Int.natCast_ediv, IntKind.wrap_u64]
  have := Nat.div_le_self x s
  generalize x / s = y at this ⊢
  omega
def wkB (n : Int) : Bool := decide (1 ≤ n ∧ n ≤ 99)
theorem wkB_yes {n : Int} (h : 1 ≤ n ∧ n ≤ 99) : wkB n = true := decide_eq_true h
theorem wkB_no {n : Int} (h : ¬ (1 ≤ n ∧ n ≤ 99)) : wkB n = false := decide_eq_false h
def ptB (n : Int) : Bool := decide (0 ≤ n ∧ n < 6)
theorem ptB_yes {n : Int} (h : 0 ≤ n ∧ n < 6) : ptB n = true := decide_eq_true h
theorem ptB_no {n : Int} (h : ¬ (0 ≤ n ∧ n < 6)) : ptB n = false := decide_eq_false h
def rstep (x : Int) (s : Int) : Int := bits .xor .u64 x (IntKind.u64.wrap (x / s))
theorem rstep_eq (x s : Nat) (h : x < 18446744073709551616) : rstep (x : Int) (s : Int) = ((xs x s : Nat) : Int) := by
  unfold rstep
  rw [quo_w x s h, xor_dn x s h]
theorem rmix_eq (x : Nat) (h : x < 18446744073709551616) : rstep (IntKind.u64.wrap (rstep (IntKind.u64.wrap (rstep (x : Int) 1073741824 * 13787848793156543929)) 134217728 * 10723151780598845931)) 2147483648 = ((mixN x : Nat) : Int) := by
  rw [show rstep (x : Int) 1073741824 = ((xs x 1073741824 : Nat) : Int) from rstep_eq x 1073741824 h]
  rw [show IntKind.u64.wrap (((xs x 1073741824 : Nat) : Int) * 13787848793156543929) = ((mixA x : Nat) : Int) from mul_wr _ 13787848793156543929]
  rw [show rstep ((mixA x : Nat) : Int) 134217728 = ((xs (mixA x) 134217728 : Nat) : Int) from rstep_eq _ 134217728 (mixA_lt x)]
  rw [show IntKind.u64.wrap (((xs (mixA x) 134217728 : Nat) : Int) * 10723151780598845931) = ((mixB (mixA x) : Nat) : Int) from mul_wr _ 10723151780598845931]
  exact rstep_eq _ 2147483648 (mixB_lt _)
theorem rmix_any (x : Nat) (w : World) (h : x < 18446744073709551616) : Calls Try.prog 10 #[.int .u64 (x : Int)] w fun e w' => e = .returned (.int .u64 ((mixN x : Nat) : Int)) ∧ w = w' := by
  have H := rmix_eq x h
  unfold rstep at H
  replace H := Lib.hid H
  clear h
  go_enter Try.func10, Try.ntmps10
  go_wp2
  go_ret
  exact ⟨ret_int H.out, rfl⟩
theorem isw_any (n : Int) (w : World) : Calls Try.prog 25 #[.int .i64 n] w fun e w' => e = .returned (.bool (wkB n)) ∧ w = w' := by
  by_cases h1 : 1 ≤ n
  · by_cases h2 : n ≤ 99
    · have H := Lib.hid (wkB_yes ⟨h1, h2⟩)
      go_enter Try.func25, Try.ntmps25
      go_wp2
      go_ret
      exact ⟨ret_bool (by rw [H.out]), rfl⟩
    · have H := Lib.hid (wkB_no (n := n) (fun h => h2 h.2))
      go_enter Try.func25, Try.ntmps25
      go_wp2
      go_ret
      exact ⟨ret_bool (by rw [H.out]), rfl⟩
  · have H := Lib.hid (wkB_no (n := n) (fun h => h1 h.1))
    go_enter Try.func25, Try.ntmps25
    go_wp2
    go_ret
    exact ⟨ret_bool (by rw [H.out]), rfl⟩
theorem isp_any (n : Int) (w : World) : Calls Try.prog 27 #[.int .i64 n] w fun e w' => e = .returned (.bool (ptB n)) ∧ w = w' := by
  by_cases h1 : 0 ≤ n
  · by_cases h2 : n < 6
    · have H := Lib.hid (ptB_yes ⟨h1, h2⟩)
      go_enter Try.func27, Try.ntmps27
      go_wp2
      go_ret
      exact ⟨ret_bool (by rw [H.out]), rfl⟩
    · have H := Lib.hid (ptB_no (n := n) (fun h => h2 h.2))
      go_enter Try.func27, Try.ntmps27
      go_wp2
      go_ret
      exact ⟨ret_bool (by rw [H.out]), rfl⟩
  · have H := Lib.hid (ptB_no (n := n) (fun h => h1 h.1))
    go_enter Try.func27, Try.ntmps27
    go_wp2
    go_ret
    exact ⟨ret_bool (by rw [H.out]), rfl⟩
theorem up_eq (n : Int) : IntKind.u32.wrap (((mixN n.toNat : Nat) : Int) / 4294967296) = upI n := by
  have := mixN_lt n.toNat
  unfold upI
  rw [IntKind.wrap_u32]
  omega
theorem up_eq2 (n : Int) : IntKind.u64.wrap (((mixN n.toNat : Nat) : Int) / 4294967296) % 4294967296 = upI n := by
  have := mixN_lt n.toNat
  unfold upI
  rw [IntKind.wrap_u64]
  omega
theorem up_conv (n : Int) (h0 : 0 ≤ n) (h1 : n ≤ 9223372036854775807) : IntKind.u64.wrap n = ((n.toNat : Nat) : Int) := by
  rw [IntKind.wrap_u64]; omega
theorem mix_int (x : Int) (w : World) (h0 : 0 ≤ x) (h1 : x < 18446744073709551616) : Calls Try.prog 9 #[.int .u64 x] w fun e w' => e = .returned (.int .u64 ((mixN x.toNat : Nat) : Int)) ∧ w = w' := by
  obtain ⟨n, rfl⟩ : ∃ n : Nat, x = n := ⟨x.toNat, by omega⟩
  rw [Int.toNat_natCast]
  exact mix_any n w (by omega)
theorem rmix_int (x : Int) (w : World) (h0 : 0 ≤ x) (h1 : x < 18446744073709551616) : Calls Try.prog 10 #[.int .u64 x] w fun e w' => e = .returned (.int .u64 ((mixN x.toNat : Nat) : Int)) ∧ w = w' := by
  obtain ⟨n, rfl⟩ : ∃ n : Nat, x = n := ⟨x.toNat, by omega⟩
  rw [Int.toNat_natCast]
  exact rmix_any n w (by omega)
theorem upper_any (n : Int) (w : World) (h0 : 0 ≤ n) (h1 : n ≤ 9223372036854775807) : Calls Try.prog 26 #[.int .i64 n] w fun e w' => e = .returned (.int .u32 (upI n)) ∧ w = w' := by
  have H := Lib.hid (up_eq n)
  go_enter Try.func26, Try.ntmps26
  go_wp2_with fail
  refine (mix_int n _ h0 (by omega)).mono ?_
  rintro e w1 ⟨rfl, rfl⟩
  go_wp2_with fail
  go_ret
  exact ⟨ret_int H.out, rfl⟩
theorem place_any (v i : Int) (w : World) : Calls Try.prog 12 #[.int .i64 v, .int .i64 i] w fun e w' => e = .returned (.int .u32 (plI v i)) ∧ w = w' := by
  by_cases h1 : 1 ≤ v ∧ v ≤ 99
  · have D := Lib.hid (wkB_yes h1)
    by_cases h2 : 0 ≤ i
    · by_cases h3 : i ≤ 7
      · have H := Lib.hid (plI_yes ⟨h1.1, h1.2, h2, h3⟩)
        have h4 := h1.1
        have h5 := h1.2
        clear h1
        go_enter Try.func12, Try.ntmps12
        go_wp2_with fail
        refine (isw_any v _).mono ?_
        rintro e w1 ⟨rfl, rfl⟩
        rw [D.out]
        go_wp2_with fail
        refine (upper_any (1000 * v + i) _ (by omega) (by omega)).mono ?_
        rintro e w1 ⟨rfl, rfl⟩
        go_wp2_with fail
        go_ret
        exact ⟨ret_int H.out.symm, rfl⟩
      · have H := Lib.hid (plI_no (v := v) (i := i) (by omega))
        clear h1
        go_enter Try.func12, Try.ntmps12
        go_wp2_with fail
        refine (isw_any v _).mono ?_
        rintro e w1 ⟨rfl, rfl⟩
        rw [D.out]
        go_wp2_with fail
        go_ret
        exact ⟨ret_int H.out.symm, rfl⟩
    · have H := Lib.hid (plI_no (v := v) (i := i) (by omega))
      clear h1
      go_enter Try.func12, Try.ntmps12
      go_wp2_with fail
      refine (isw_any v _).mono ?_
      rintro e w1 ⟨rfl, rfl⟩
      rw [D.out]
      go_wp2_with fail
      go_ret
      exact ⟨ret_int H.out.symm, rfl⟩
  · have D := Lib.hid (wkB_no h1)
    have H := Lib.hid (plI_no (v := v) (i := i) (by omega))
    clear h1
    go_enter Try.func12, Try.ntmps12
    go_wp2_with fail
    refine (isw_any v _).mono ?_
    rintro e w1 ⟨rfl, rfl⟩
    rw [D.out]
    go_wp2_with fail
    go_ret
    exact ⟨ret_int H.out.symm, rfl⟩
theorem key_any (p : Int) (w : World) : Calls Try.prog 14 #[.int .i64 p] w fun e w' => e = .returned (.int .u32 (keyI p)) ∧ w = w' := by
  by_cases h1 : 0 ≤ p ∧ p < 6
  · have D := Lib.hid (ptB_yes h1)
    have H := Lib.hid (keyI_yes h1)
    have h4 := h1.1
    have h5 := h1.2
    clear h1
    go_enter Try.func14, Try.ntmps14
    go_wp2_with fail
    refine (isp_any p _).mono ?_
    rintro e w1 ⟨rfl, rfl⟩
    rw [D.out]
    go_wp2_with fail
    refine (upper_any (1000000 + p) _ (by omega) (by omega)).mono ?_
    rintro e w1 ⟨rfl, rfl⟩
    go_wp2_with fail
    go_ret
    exact ⟨ret_int H.out.symm, rfl⟩
  · have D := Lib.hid (ptB_no h1)
    have H := Lib.hid (keyI_no h1)
    clear h1
    go_enter Try.func14, Try.ntmps14
    go_wp2_with fail
    refine (isp_any p _).mono ?_
    rintro e w1 ⟨rfl, rfl⟩
    rw [D.out]
    go_wp2_with fail
    go_ret
    exact ⟨ret_int H.out.symm, rfl⟩
theorem rplace_any (v i : Int) (w : World) : Calls Try.prog 13 #[.int .i64 v, .int .i64 i] w fun e w' => e = .returned (.int .u32 (plI v i)) ∧ w = w' := by
  by_cases h1 : 1 ≤ v
  · by_cases h2 : v ≤ 99
    · by_cases h3 : 0 ≤ i
      · by_cases h4 : i ≤ 7
        · have H := Lib.hid (plI_yes ⟨h1, h2, h3, h4⟩)
          have H2 := Lib.hid (up_eq2 (1000 * v + i))
          go_enter Try.func13, Try.ntmps13
          go_wp2_with fail
          refine (rmix_int (1000 * v + i) _ (by omega) (by omega)).mono ?_
          rintro e w1 ⟨rfl, rfl⟩
          go_wp2_with fail
          go_ret
          exact ⟨ret_int (H2.out.trans H.out.symm), rfl⟩
        all_goals
          have H := Lib.hid (plI_no (v := v) (i := i) (by omega))
          go_enter Try.func13, Try.ntmps13
          go_wp2_with fail
          go_ret
          exact ⟨ret_int H.out.symm, rfl⟩
      · have H := Lib.hid (plI_no (v := v) (i := i) (by omega))
        go_enter Try.func13, Try.ntmps13
        go_wp2_with fail
        go_ret
        exact ⟨ret_int H.out.symm, rfl⟩
    · have H := Lib.hid (plI_no (v := v) (i := i) (by omega))
      go_enter Try.func13, Try.ntmps13
      go_wp2_with fail
      go_ret
      exact ⟨ret_int H.out.symm, rfl⟩
  · have H := Lib.hid (plI_no (v := v) (i := i) (by omega))
    go_enter Try.func13, Try.ntmps13
    go_wp2_with fail
    go_ret
    exact ⟨ret_int H.out.symm, rfl⟩
theorem rkey_any (p : Int) (w : World) : Calls Try.prog 15 #[.int .i64 p] w fun e w' => e = .returned (.int .u32 (keyI p)) ∧ w = w' := by
  by_cases h1 : 0 ≤ p
  · by_cases h2 : p < 6
    · have H := Lib.hid (keyI_yes ⟨h1, h2⟩)
      have H2 := Lib.hid (up_eq2 (1000000 + p))
      go_enter Try.func15, Try.ntmps15
      go_wp2_with fail
      refine (rmix_int (1000000 + p) _ (by omega) (by omega)).mono ?_
      rintro e w1 ⟨rfl, rfl⟩
      go_wp2_with fail
      go_ret
      exact ⟨ret_int (H2.out.trans H.out.symm), rfl⟩
    · have H := Lib.hid (keyI_no (p := p) (by omega))
      go_enter Try.func15, Try.ntmps15
      go_wp2_with fail
      go_ret
      exact ⟨ret_int H.out.symm, rfl⟩
  · have H := Lib.hid (keyI_no (p := p) (by omega))
    go_enter Try.func15, Try.ntmps15
    go_wp2_with fail
    go_ret
    exact ⟨ret_int H.out.symm, rfl⟩
/-- A spot as a value. -/
def spV (s : Sp) : Value := .agg #[.int .u32 s.1, .int .i64 s.2]
theorem ear_any (b1 b2 s1 s2 : Int) (w : World) : Calls Try.prog 31 #[.agg #[.int .u32 b1, .int .i64 b2], .agg #[.int .u32 s1, .int .i64 s2]] w fun e w' => e = .returned (spV (earI (b1, b2) (s1, s2))) ∧ Below w.heap.size w w' := by
  have HB : ∀ x y z, Below w.heap.size w (((w.alloc x).alloc y).alloc z) := fun x y z => (((Below.refl _ w).alloc (Nat.le_refl _) x).alloc (by simp) y).alloc (by simp; omega) z
  by_cases h0 : b1 = 0
  · subst h0
    by_cases h1 : b2 = 0
    · subst h1
      have H := Lib.hid (earI_1 (b := (0, 0)) (s := (s1, s2)) (.inl ⟨rfl, rfl⟩))
      go_enter Try.func31, Try.ntmps31
      go_wp2_with fail
      refine bodyPost_ret (v := .agg #[.int .u32 s1, .int .i64 s2]) (by simp [results, Try.results31, go_sem]) rfl ?_
      exact ⟨by rw [H.out]; rfl, HB _ _ _⟩
    · have h1' : (b2 == 0) = false := by simpa using h1
      by_cases h2 : s1 < 0
      · have H := Lib.hid (earI_1 (b := (0, b2)) (s := (s1, s2)) (.inr h2))
        go_enter Try.func31, Try.ntmps31
        go_wp2_with fail
        refine bodyPost_ret (v := .agg #[.int .u32 s1, .int .i64 s2]) (by simp [results, Try.results31, go_sem]) rfl ?_
        exact ⟨by rw [H.out]; rfl, HB _ _ _⟩
      · by_cases h3 : s1 = 0
        · by_cases h4 : s2 < b2
          · have H := Lib.hid (earI_2 (b := (0, b2)) (s := (s1, s2)) (by simp only; omega) ⟨h3, h4⟩)
            have h3' : (s1 == 0) = true := by simpa using h3
            clear h3
            go_enter Try.func31, Try.ntmps31
            go_wp2_with fail
            refine bodyPost_ret (v := .agg #[.int .u32 s1, .int .i64 s2]) (by simp [results, Try.results31, go_sem]) rfl ?_
            exact ⟨by rw [H.out]; rfl, HB _ _ _⟩
          · have H := Lib.hid (earI_3 (b := (0, b2)) (s := (s1, s2)) (by simp only; omega) (by simp only; omega))
            have h3' : (s1 == 0) = true := by simpa using h3
            clear h3
            go_enter Try.func31, Try.ntmps31
            go_wp2_with fail
            refine bodyPost_ret (v := .agg #[.int .u32 0, .int .i64 b2]) (by simp [results, Try.results31, go_sem]) rfl ?_
            exact ⟨by rw [H.out]; rfl, HB _ _ _⟩
        · have H := Lib.hid (earI_3 (b := (0, b2)) (s := (s1, s2)) (by simp only; omega) (by simp only; omega))
          have h3' : (s1 == 0) = false := by simpa using h3
          clear h3
          go_enter Try.func31, Try.ntmps31
          go_wp2_with fail
          refine bodyPost_ret (v := .agg #[.int .u32 0, .int .i64 b2]) (by simp [results, Try.results31, go_sem]) rfl ?_
          exact ⟨by rw [H.out]; rfl, HB _ _ _⟩
  · have h0' : (b1 == 0) = false := by simpa using h0
    by_cases h2 : s1 < b1
    · have H := Lib.hid (earI_1 (b := (b1, b2)) (s := (s1, s2)) (.inr h2))
      go_enter Try.func31, Try.ntmps31
      go_wp2_with fail
      refine bodyPost_ret (v := .agg #[.int .u32 s1, .int .i64 s2]) (by simp [results, Try.results31, go_sem]) rfl ?_
      exact ⟨by rw [H.out]; rfl, HB _ _ _⟩
    · by_cases h3 : s1 = b1
      · by_cases h4 : s2 < b2
        · have H := Lib.hid (earI_2 (b := (b1, b2)) (s := (s1, s2)) (by simp only; omega) ⟨h3, h4⟩)
          have h3' : (s1 == b1) = true := by simpa using h3
          clear h3
          go_enter Try.func31, Try.ntmps31
          go_wp2_with fail
          refine bodyPost_ret (v := .agg #[.int .u32 s1, .int .i64 s2]) (by simp [results, Try.results31, go_sem]) rfl ?_
          exact ⟨by rw [H.out]; rfl, HB _ _ _⟩
        · have H := Lib.hid (earI_3 (b := (b1, b2)) (s := (s1, s2)) (by simp only; omega) (by simp only; omega))
          have h3' : (s1 == b1) = true := by simpa using h3
          clear h3
          go_enter Try.func31, Try.ntmps31
          go_wp2_with fail
          refine bodyPost_ret (v := .agg #[.int .u32 b1, .int .i64 b2]) (by simp [results, Try.results31, go_sem]) rfl ?_
          exact ⟨by rw [H.out]; rfl, HB _ _ _⟩
      · have H := Lib.hid (earI_3 (b := (b1, b2)) (s := (s1, s2)) (by simp only; omega) (by simp only; omega))
        have h3' : (s1 == b1) = false := by simpa using h3
        clear h3
        go_enter Try.func31, Try.ntmps31
        go_wp2_with fail
        refine bodyPost_ret (v := .agg #[.int .u32 b1, .int .i64 b2]) (by simp [results, Try.results31, go_sem]) rfl ?_
        exact ⟨by rw [H.out]; rfl, HB _ _ _⟩
end Go.Proofs.Ytgdgjkdigbohlaa
