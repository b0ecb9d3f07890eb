/-
  Contracts of the program's and the document's inner functions on bytes: sumOn, Sum, frameSum, taken, written, copied, Value, Digits. Conditions: sizes below 2^47.
-/
import Derived.Test.YtalggmdnefolfaaMath
import Derived.Test.YtalggmdnefolfaaBase
import Derived.Test.YtalggmdnefolfaaProg
import Derived.Laws.BitsAllLaws
import Derived.Deep.OwnRows
namespace Go.Proofs.Ytalggmdnefolfaa
open Go.RowKit
set_option linter.unusedVariables false

theorem Try.info5 : (Try.prog.info? 5).map (fun i => (i.zero, i.size, i.bytes)) = some (some (.int .u8 0), 1, 1) := by kernel_rfl

set_option maxHeartbeats 400000 in
theorem sumOn_any (c0 : Nat) (A : Option Addr) (n cp : Nat) (l : List UInt8) (w : World) (hn : n ≤ 140737488355328) (hc : c0 < 4294967296) (hA : Lies w w.heap.size 1 A n (bc l)) :
    Calls Try.prog 26 #[.int .u32 c0, .slice A n cp] w fun e w' => e = .returned (.int .u32 (crcOn c0 l : Nat)) ∧ w = w' := by
  go_enter Try.func26, Try.ntmps26
  go_wp2
  go_loop [0, 10] (fun c i => ∃ k : Nat, k ≤ n ∧ i = .int .i64 k ∧ c = .int .u32 (crcOn c0 (l.take k) : Nat)) (fun _ i => n - (intOf i).toNat)
  case atStart => exact ⟨0, Nat.zero_le _, rfl, rfl⟩
  case round =>
    obtain ⟨k, hk, rfl, rfl⟩ := hrel
    by_cases hlt : k < n
    · obtain ⟨ad, hl, rfl, hb, hcell⟩ := hA.byte k hlt
      have hX := crcOn_lt (l.take k) c0 hc
      have hS := Lib.hid (crcOn_take c0 l k hl)
      have hB := byte_lt l[k]
      have hY := xor_byte_lt (crcOn c0 (l.take k)) l[k] hX
      generalize l[k] = b at *
      generalize crcOn c0 (l.take k) = x at *
      have hx := u32_xor_nat x b.toNat hX (by omega)
      go_wp2
      clear hx
      generalize x ^^^ b.toNat = y0 at *
      go_loop [0, 18] (fun c i => ∃ j : Nat, j ≤ 8 ∧ i = .int .i64 j ∧ c = .int .u32 (crcBits j y0 : Nat)) (fun _ i => 8 - (intOf i).toNat)
      case atStart => exact ⟨0, Nat.zero_le _, rfl, rfl⟩
      case round =>
        obtain ⟨j, hj, rfl, rfl⟩ := hrel
        by_cases hjt : j < 8
        · have hZ := crcBits_lt j y0 hY
          have hT : crcBits (j + 1) y0 = crcBit (crcBits j y0) := rfl
          have HT := Lib.hid hT
          clear hT
          generalize crcBits j y0 = z at *
          have ha : bits .and .u32 (z : Int) 1 = ((z % 2 : Nat) : Int) := by have := u32_and_nat z 1 hZ (by omega); rw [nat_mask1] at this; exact this
          obtain ⟨q, hq, HQ⟩ : ∃ q : Nat, q = (z / 2) ^^^ 3988292384 ∧ bits .xor .u32 ((z : Int) / 2) 3988292384 = (q : Int) := ⟨_, rfl, u32_xor_nat (z / 2) 3988292384 (by omega) (by omega)⟩
          by_cases hp : z % 2 = 1
          · rw [hp] at ha
            have hb1 : crcBit z = q := by unfold crcBit; rw [if_pos hp, hq]
            rw [hb1] at HT
            clear hb1 hq
            have hr : (((1 : Nat) : Int) == 1) = true := rfl
            go_wp2
            go_round
            case rel => exact ⟨j + 1, by omega, by go_num, by rw [HT.out]⟩
            case measure => simp [intOf]; omega
          · have hp0 : z % 2 = 0 := by omega
            rw [hp0] at ha
            have hb1 : crcBit z = z / 2 := by unfold crcBit; rw [if_neg hp]
            rw [hb1] at HT
            clear hb1 hq HQ
            have hr : (((0 : Nat) : Int) == 1) = false := rfl
            go_wp2
            go_round
            case rel => exact ⟨j + 1, by omega, by go_num, by rw [HT.out]; go_num⟩
            case measure => simp [intOf]; omega
        · obtain rfl : j = 8 := by omega
          generalize hz : crcBits 8 y0 = z at *
          have HZ := Lib.hid hz
          clear hz
          go_wp2
          go_round
          case rel => exact ⟨k + 1, by omega, by go_num, by rw [hS.out]⟩
          case measure => simp [intOf]; omega
    · go_wp2
      go_ret
      exact ⟨ret_int (by rw [List.take_of_length_le (by rw [hA.len]; omega)]), rfl⟩

theorem set_last (z u : Value) (X : List Value) (sz k : Nat) (h : k < sz) : (List.replicate (sz - k) z ++ X).set (sz - 1 - k) u = List.replicate (sz - (k + 1)) z ++ (u :: X) := by
  have e : sz - k = (sz - (k + 1)) + 1 := by omega
  rw [e, List.replicate_succ', List.append_assoc, List.set_append_right _ _ (by simp; omega)]
  congr 1
  rw [List.length_replicate, show sz - 1 - k - (sz - (k + 1)) = 0 by omega]
  rfl

set_option maxHeartbeats 400000 in
theorem written_any (n sz : Nat) (w : World) (hn : n < 18446744073709551616) (hs : sz ≤ 8) :
    Calls Try.prog 27 #[.int .u64 n, .int .i64 sz] w fun e w' => ∃ A c, e = .returned (.slice A sz c) ∧ w'.ownsRow w.heap.size 5 1 (.slice A sz c) sz (bc (be sz n)) ∧ Below w.heap.size w w' := by
  obtain ⟨i0, hi, hz0, hz1, hz2⟩ := info_parts Try.info5
  go_enter Try.func27, Try.ntmps27
  go_wp2_with (at_make; refine wpList_make_full _ rfl _ _ 22 rfl w.heap.size 5 i0 (.int .u8 0) 1 Try.underlying22 hi hz0 hz1 _ _ _ _ sz rfl rfl rfl rfl ?c1 ?c2 ?c3 ?_)
  case c1 => rw [hz2]; omega
  case c2 => unfold maxLen; omega
  case c3 => omega
  intro w1 hown hg
  have hbel : Below w.heap.size w w1 := (Below.refl _ _).grown hg (Nat.le_refl _) (fun k hk => by cases hk)
  rw [toList_madeCells_one] at hown
  clear hg
  go_wp2
  go_loopw [0, 6, 10] (fun nv _ i wr => ∃ k m : Nat, k ≤ sz ∧ i = .int .i64 k ∧ Hid (m = n / 256 ^ k) ∧ nv = .int .u64 m ∧ m < 18446744073709551616 ∧
      wr.ownsRow w.heap.size 5 1 (.slice (some ⟨w.heap.size, 0, none⟩) sz sz) sz (List.replicate (sz - k) (Value.int .u8 0) ++ bc (be k n)) ∧ Below w.heap.size w wr) (fun _ _ i _ => sz - (intOf i).toNat)
  case atStart => exact ⟨0, n, Nat.zero_le _, rfl, by show n = _; simp, rfl, hn, by simpa [be, bc] using hown, hbel⟩
  case round =>
    obtain ⟨k, m, hk, rfl, hm, rfl, hm64, hownk, hbelk⟩ := hrel
    by_cases hlt : k < sz
    · have hcl := hownk.cellAt (sz - 1 - k) (by omega)
      have hl1 : sz - 1 - k < (List.replicate (sz - k) (Value.int .u8 0) ++ bc (be k n)).length := by simp [bc_length]; omega
      rw [List.getElem?_eq_getElem hl1] at hcl
      have hfr := hownk.frozenAt (sz - 1 - k)
      generalize (List.replicate (sz - k) (Value.int .u8 0) ++ bc (be k n))[sz - 1 - k] = cv at hcl
      have hst := hownk.stored (sz - 1 - k) (.int .u8 ((m : Int) % 256))
      have hE := Lib.hid (set_last (Value.int .u8 0) (.int .u8 ((m : Int) % 256)) (bc (be k n)) sz k hlt)
      have hH := Lib.hid hst.1
      clear hst
      have hF : Hid (m / 256 = n / 256 ^ (k + 1)) := by show m / 256 = _; rw [hm.out, Nat.div_div_eq_div_mul, ← Nat.pow_succ]
      have hG : Hid (bc (be (k + 1) n) = Value.int .u8 ((m : Int) % 256) :: bc (be k n)) := by
        show _ = _
        rw [be_left, ← hm.out]; unfold bc; rw [List.map_cons, byte_ofNat, Nat.mod_mod]; rfl
      go_wp2
      go_roundw
      case rel => exact ⟨k + 1, m / 256, by omega, by go_num, hF, by go_num, by omega, by rw [hG.out, ← hE.out]; exact hH.out, hbelk.setCell (Nat.le_refl _) _⟩
      case measure => simp [intOf]; omega
    · go_wp2
      go_ret
      obtain rfl : k = sz := by omega
      exact ⟨_, _, rfl, by simpa using hownk, hbelk⟩

theorem valOf_take_lt (l : List UInt8) (k : Nat) (h : k < 8) : valOf (l.take k) * 256 + 255 < 18446744073709551616 := by
  have h1 := valOf_lt (l.take k)
  have h2 : 256 ^ (l.take k).length ≤ 256 ^ 7 := Nat.pow_le_pow_right (by omega) (by rw [List.length_take]; omega)
  have h3 : (256 : Nat) ^ 7 = 72057594037927936 := by decide
  omega

theorem or_byte (m b : Nat) (hb : b < 256) : (m * 256) ||| b = m * 256 + b := nat_join 8 (m * 256) b (by omega) (by omega)

theorem or64 (x b : Nat) (h : x * 256 + 255 < 18446744073709551616) (hb : b < 256) : bits .or .u64 ((x : Int) * 256) (b : Int) = ((x * 256 + b : Nat) : Int) := by
  have h1 : x * 256 < 18446744073709551616 := Nat.lt_of_le_of_lt (Nat.le_add_right _ 255) h
  have h2 : b < 18446744073709551616 := Nat.lt_of_lt_of_le hb (by decide)
  have h3 := u64_or_nat (x * 256) b h1 h2
  rw [or_byte x b hb, Int.natCast_mul] at h3
  exact h3

set_option maxHeartbeats 400000 in
theorem taken_any (A : Option Addr) (n cp sz : Nat) (y : Int) (hy : y = (sz : Int)) (l : List UInt8) (w : World) (hn : n ≤ 140737488355328) (hs : sz ≤ 8) (hsn : sz ≤ n) (hA : Lies w w.heap.size 1 A n (bc l)) :
    Calls Try.prog 29 #[.slice A n cp, .int .i64 y] w fun e w' => e = .returned (.int .u64 (valOf (l.take sz) : Nat)) ∧ w = w' := by
  subst hy
  go_enter Try.func29, Try.ntmps29
  go_wp2
  go_loop [5, 6, 8] (fun v _ i => ∃ k : Nat, k ≤ sz ∧ i = .int .i64 k ∧ v = .int .u64 (valOf (l.take k) : Nat)) (fun _ _ i => sz - (intOf i).toNat)
  case atStart => exact ⟨0, Nat.zero_le _, rfl, rfl⟩
  case round =>
    obtain ⟨k, hk, rfl, rfl⟩ := hrel
    by_cases hlt : k < sz
    · obtain ⟨ad, hl, rfl, hb, hcell⟩ := hA.byte k (by omega)
      have hS := Lib.hid (valOf_take l k hl)
      have hX := valOf_take_lt l k (by omega)
      have hB := byte_lt l[k]
      generalize l[k] = b at *
      generalize valOf (l.take k) = x at *
      have ho := or64 x b.toNat hX hB
      generalize x * 256 + b.toNat = y at *
      go_wp2
      go_round
      case rel => exact ⟨k + 1, by omega, by go_num, by rw [hS.out]⟩
      case measure => simp [intOf]; omega
    · go_wp2
      go_ret
      obtain rfl : k = sz := by omega
      exact ⟨rfl, rfl⟩

set_option maxHeartbeats 400000 in
theorem copied_any (A : Option Addr) (n cp : Nat) (l : List UInt8) (w : World) (hn : n ≤ 140737488355328) (hA : Lies w w.heap.size 1 A n (bc l)) :
    Calls Try.prog 30 #[.slice A n cp] w fun e w' => ∃ A' c', e = .returned (.slice A' n c') ∧ w'.ownsRow w.heap.size 5 1 (.slice A' n c') n (bc l) ∧ Below w.heap.size w w' := by
  obtain ⟨i0, hi, hz0, hz1, hz2⟩ := info_parts Try.info5
  go_enter Try.func30, Try.ntmps30
  go_wp2_with (at_builtin; refine wpList_app _ rfl _ _ 22 rfl w.heap.size 5 i0 (.int .u8 0) 1 1 Try.underlying22 hi hz0 hz1 hz2 rfl (by decide) none 0 0 [] rfl (World.ownsRow_nil _ _ _ _) w.heap.size A n cp (bc l) rfl hA (bc_one l) n (bc l) (by omega) rfl (by unfold maxLen; omega) (by omega) (Nat.le_refl _) ?_)
  intro A' c' w' ho hb
  go_wp2
  go_ret
  exact ⟨_, _, rfl, ho, hb⟩

theorem written_at (n sz : Nat) (x y : Int) (hx : x = (n : Int)) (hy : y = (sz : Int)) (w : World) (hn : n < 18446744073709551616) (hs : sz ≤ 8) :
    Calls Try.prog 27 #[.int .u64 x, .int .i64 y] w fun e w' => ∃ A c, e = .returned (.slice A sz c) ∧ w'.ownsRow w.heap.size 5 1 (.slice A sz c) sz (bc (be sz n)) ∧ Below w.heap.size w w' := by
  subst hx hy; exact written_any n sz w hn hs

/-- The published sum. -/
def crcOf (l : List UInt8) : Nat := crcOn 4294967295 l ^^^ 4294967295

theorem crcOf_lt (l : List UInt8) : crcOf l < 4294967296 := Nat.xor_lt_two_pow (n := 32) (crcOn_lt l _ (by decide)) (by decide)

theorem xor_ones (y : Nat) (hy : y < 4294967296) : ∃ q : Nat, q = y ^^^ 4294967295 ∧ bits .xor .u32 (y : Int) 4294967295 = (q : Int) :=
  ⟨_, rfl, u32_xor_nat y 4294967295 hy (by decide)⟩

theorem sumOn_at (x : Int) (c0 : Nat) (hx : x = (c0 : Int)) (A : Option Addr) (n cp : Nat) (l : List UInt8) (w : World) (hn : n ≤ 140737488355328) (hc : c0 < 4294967296) (hA : Lies w w.heap.size 1 A n (bc l)) :
    Calls Try.prog 26 #[.int .u32 x, .slice A n cp] w fun e w' => e = .returned (.int .u32 (crcOn c0 l : Nat)) ∧ w = w' := by
  subst hx; exact sumOn_any c0 A n cp l w hn hc hA

set_option maxHeartbeats 400000 in
theorem sum_any (A : Option Addr) (n cp : Nat) (l : List UInt8) (w : World) (hn : n ≤ 140737488355328) (hA : Lies w w.heap.size 1 A n (bc l)) :
    Calls Try.prog 12 #[.slice A n cp] w fun e w' => e = .returned (.int .u32 (crcOf l : Nat)) ∧ w = w' := by
  have hL := crcOn_lt l 4294967295 (by decide)
  obtain ⟨q, hq, hx⟩ := xor_ones _ hL
  have HQ : Hid (crcOf l = q) := hq.symm
  clear hq
  go_enter Try.func12, Try.ntmps12
  go_wp2_with fail
  refine (sumOn_at _ 4294967295 rfl A n cp l _ hn (by decide) hA).mono ?_
  rintro e w' ⟨rfl, rfl⟩
  go_wp2
  go_ret
  exact ⟨ret_int (by rw [HQ.out]), rfl⟩

set_option maxHeartbeats 400000 in
theorem frameSum_any (A : Option Addr) (n cp : Nat) (l : List UInt8) (A2 : Option Addr) (n2 cp2 : Nat) (l2 : List UInt8) (w : World) (hn : n ≤ 140737488355328) (hn2 : n2 ≤ 140737488355328) (hA : Lies w w.heap.size 1 A n (bc l)) (hA2 : Lies w w.heap.size 1 A2 n2 (bc l2)) :
    Calls Try.prog 32 #[.slice A n cp, .slice A2 n2 cp2] w fun e w' => e = .returned (.int .u32 (crcOf (l ++ l2) : Nat)) ∧ w = w' := by
  have hL0 := crcOn_lt l 4294967295 (by decide)
  have hL := crcOn_lt l2 _ hL0
  obtain ⟨q, hq, hx⟩ := xor_ones _ hL
  have HQ : Hid (crcOf (l ++ l2) = q) := by show _ = _; unfold crcOf; rw [crcOn_append]; exact hq.symm
  clear hq
  go_enter Try.func32, Try.ntmps32
  go_wp2_with fail
  refine (sumOn_at _ 4294967295 rfl A n cp l _ hn (by decide) hA).mono ?_
  rintro e w' ⟨rfl, rfl⟩
  go_wp2_with fail
  refine (sumOn_at _ (crcOn 4294967295 l) rfl A2 n2 cp2 l2 _ hn2 hL0 hA2).mono ?_
  rintro e w' ⟨rfl, rfl⟩
  go_wp2
  go_ret
  exact ⟨ret_int (by rw [HQ.out]), rfl⟩

set_option maxHeartbeats 400000 in
theorem rsum_any (A : Option Addr) (n cp : Nat) (l : List UInt8) (w : World) (hn : n ≤ 140737488355328) (hA : Lies w w.heap.size 1 A n (bc l)) :
    Calls Try.prog 13 #[.slice A n cp] w fun e w' => e = .returned (.int .u32 (crcOf l : Nat)) ∧ w = w' := by
  have hL := crcOn_lt l 4294967295 (by decide)
  obtain ⟨q, hq, hx⟩ := xor_ones _ hL
  have HQ : Hid (crcOf l = q) := hq.symm
  clear hq
  go_enter Try.func13, Try.ntmps13
  go_wp2
  go_loop [3, 4, 5] (fun c i _ => ∃ k : Nat, k ≤ n ∧ i = .int .i64 k ∧ c = .int .u32 (crcOn 4294967295 (l.take k) : Nat)) (fun _ i _ => n - (intOf i).toNat)
  case atStart => exact ⟨0, Nat.zero_le _, rfl, rfl⟩
  case round =>
    obtain ⟨k, hk, rfl, rfl⟩ := hrel
    by_cases hlt : k < n
    · obtain ⟨ad, hl, rfl, hb, hcell⟩ := hA.byte k hlt
      clear hx
      have hX := crcOn_lt (l.take k) 4294967295 (by decide)
      have hS := Lib.hid (crcOn_take 4294967295 l k hl)
      have hB := byte_lt l[k]
      have hY := xor_byte_lt (crcOn 4294967295 (l.take k)) l[k] hX
      generalize l[k] = b at *
      generalize crcOn 4294967295 (l.take k) = x at *
      have hx := u32_xor_nat x b.toNat hX (by omega)
      go_wp2
      clear hx
      generalize x ^^^ b.toNat = y0 at *
      go_loop [3, 5] (fun c i => ∃ j : Nat, j ≤ 8 ∧ i = .int .i64 j ∧ c = .int .u32 (crcBits j y0 : Nat)) (fun _ i => 8 - (intOf i).toNat)
      case atStart => exact ⟨0, Nat.zero_le _, rfl, rfl⟩
      case round =>
        obtain ⟨j, hj, rfl, rfl⟩ := hrel
        by_cases hjt : j < 8
        · have hZ := crcBits_lt j y0 hY
          have hT : crcBits (j + 1) y0 = crcBit (crcBits j y0) := rfl
          have HT := Lib.hid hT
          clear hT
          generalize crcBits j y0 = z at *
          obtain ⟨q', hq, HQ'⟩ : ∃ q : Nat, q = (z / 2) ^^^ 3988292384 ∧ bits .xor .u32 ((z : Int) / 2) 3988292384 = (q : Int) := ⟨_, rfl, u32_xor_nat (z / 2) 3988292384 (by omega) (by omega)⟩
          by_cases hp : z % 2 = 1
          · have hb1 : crcBit z = q' := by unfold crcBit; rw [if_pos hp, hq]
            rw [hb1] at HT
            clear hb1 hq
            have hr : (((z : Int) % 2) == 1) = true := by simp; omega
            go_wp2
            go_round
            case rel => exact ⟨j + 1, by omega, by go_num, by rw [HT.out]⟩
            case measure => simp [intOf]; omega
          · have hb1 : crcBit z = z / 2 := by unfold crcBit; rw [if_neg hp]
            rw [hb1] at HT
            clear hb1 hq HQ'
            have hr : (((z : Int) % 2) == 1) = false := by simp; omega
            go_wp2
            go_round
            case rel => exact ⟨j + 1, by omega, by go_num, by rw [HT.out]; go_num⟩
            case measure => simp [intOf]; omega
        · obtain rfl : j = 8 := by omega
          generalize hz : crcBits 8 y0 = z at *
          have HZ := Lib.hid hz
          clear hz
          go_wp2
          go_round
          case rel => exact ⟨k + 1, by omega, by go_num, by rw [hS.out]⟩
          case measure => simp [intOf]; omega
    · have e : l.take k = l := List.take_of_length_le (by rw [hA.len]; omega)
      rw [e]
      clear e
      go_wp2
      go_ret
      exact ⟨ret_int (by rw [HQ.out]), rfl⟩

set_option maxHeartbeats 400000 in
theorem value_any (A : Option Addr) (n cp : Nat) (l : List UInt8) (w : World) (hn : n ≤ 8) (hA : Lies w w.heap.size 1 A n (bc l)) :
    Calls Try.prog 31 #[.slice A n cp] w fun e w' => e = .returned (.int .u64 (valOf l : Nat)) ∧ w = w' := by
  go_enter Try.func31, Try.ntmps31
  go_wp2
  go_loop [3, 4] (fun v i => ∃ k : Nat, k ≤ n ∧ i = .int .i64 k ∧ v = .int .u64 (valOf (l.take k) : Nat)) (fun _ i => n - (intOf i).toNat)
  case atStart => exact ⟨0, Nat.zero_le _, rfl, rfl⟩
  case round =>
    obtain ⟨k, hk, rfl, rfl⟩ := hrel
    by_cases hlt : k < n
    · obtain ⟨ad, hl, rfl, hb, hcell⟩ := hA.byte k (by omega)
      have hS := Lib.hid (valOf_take l k hl)
      have hX := valOf_take_lt l k (by omega)
      have hB := byte_lt l[k]
      generalize l[k] = b at *
      generalize valOf (l.take k) = x at *
      go_wp2
      go_round
      case rel => exact ⟨k + 1, by omega, by go_num, by rw [hS.out]; go_num⟩
      case measure => simp [intOf]; omega
    · have e : l.take k = l := List.take_of_length_le (by rw [hA.len]; omega)
      rw [e]
      go_wp2
      go_ret
      exact ⟨rfl, rfl⟩

end Go.Proofs.Ytalggmdnefolfaa
