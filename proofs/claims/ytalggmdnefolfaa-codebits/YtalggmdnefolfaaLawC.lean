/-
  The walk of CodeBits: a turned bit is found. No condition.
-/
import Derived.Test.YtalggmdnefolfaaLawB
import Derived.Deep.RegionLaw
namespace Go.Proofs.Ytalggmdnefolfaa
open Go.RowKit
set_option linter.unusedVariables false

theorem bit_at (x : Int) (n : Nat) (h : n ≤ 4000) : ∃ i : Nat, wrap64 ((IntKind.u64.wrap x).tmod (8 * (8 + (n : Int) - 4))) = (i : Int) ∧ i < 8 * (n + 4) := by
  rw [u64_eq, show (8 * (8 + (n : Int) - 4)) = ((8 * (n + 4) : Nat) : Int) by omega]
  have e : ((u64 x : Int)).tmod ((8 * (n + 4) : Nat) : Int) = ((u64 x % (8 * (n + 4)) : Nat) : Int) := by rw [Int.ofNat_tmod]
  rw [e]
  have hlt : u64 x % (8 * (n + 4)) < 8 * (n + 4) := Nat.mod_lt _ (by omega)
  refine ⟨u64 x % (8 * (n + 4)), ?_, hlt⟩
  generalize u64 x % (8 * (n + 4)) = i at *
  unfold wrap64
  omega

theorem bc_set (l : List UInt8) (j : Nat) (y : UInt8) : (bc l).set j (.int .u8 (y.toNat : Int)) = bc (l.set j y) := by
  unfold bc; rw [List.map_set]

theorem xor_pow_ne (a b : Nat) : a ^^^ 2 ^ b ≠ a := by
  intro h
  have h1 : (a ^^^ 2 ^ b).testBit b = a.testBit b := by rw [h]
  rw [Nat.testBit_xor, Nat.testBit_two_pow_self] at h1
  cases h2 : a.testBit b <;> rw [h2] at h1 <;> cases h1

/-- A byte of which one bit is turned is another one. -/
theorem turned (y : UInt8) (b : Nat) (hb : b < 8) : ∃ y' : UInt8, bits .xor .u8 (y.toNat : Int) (2 ^ b % 256) = (y'.toNat : Int) ∧ y ≠ y' := by
  have hp : (2 : Nat) ^ b < 256 := by
    have : (2 : Nat) ^ b ≤ 2 ^ 7 := Nat.pow_le_pow_right (by omega) (by omega)
    omega
  have hx : y.toNat ^^^ 2 ^ b < 256 := Nat.xor_lt_two_pow (n := 8) (by have := byte_lt y; omega) (by omega)
  have hc : ((2 : Int) ^ b % 256) = ((2 ^ b : Nat) : Int) := by
    have : ((2 : Int) ^ b) = ((2 ^ b : Nat) : Int) := by rw [Int.natCast_pow]; rfl
    rw [this]; generalize (2 : Nat) ^ b = p at *; omega
  refine ⟨UInt8.ofNat (y.toNat ^^^ 2 ^ b), ?_, ?_⟩
  · rw [hc, u8_xor_nat _ _ (byte_lt y) hp, byte_ofNat, Nat.mod_eq_of_lt hx]
  · intro h
    have := congrArg UInt8.toNat h
    rw [byte_ofNat, Nat.mod_eq_of_lt hx] at this
    exact xor_pow_ne _ _ this.symm

theorem crcOn_turned (c : Nat) (hc : c < 4294967296) (a b : List UInt8) (y y' : UInt8) (h : y ≠ y') : crcOn c (a ++ y :: b) ≠ crcOn c (a ++ y' :: b) := by
  intro e
  rw [crcOn_append, crcOn_append] at e
  have hL := crcOn_lt a c hc
  have e2 := crcOn_inj b _ _ (crcBits_lt 8 _ (xor_byte_lt _ y hL)) (crcBits_lt 8 _ (xor_byte_lt _ y' hL)) e
  have e3 := crcBits_inj 8 _ _ (xor_byte_lt _ y hL) (xor_byte_lt _ y' hL) e2
  rw [Nat.xor_comm _ y.toNat, Nat.xor_comm _ y'.toNat] at e3
  exact h (UInt8.toNat_inj.1 (xor_cancel _ _ _ e3))

theorem crcOf_turned (a b : List UInt8) (y y' : UInt8) (h : y ≠ y') : crcOf (a ++ y :: b) ≠ crcOf (a ++ y' :: b) := by
  intro e
  exact crcOn_turned 4294967295 (by decide) a b y y' h (xor_cancel _ _ _ e)

theorem valOf_inj (a b : List UInt8) (hl : a.length = b.length) (h : valOf a = valOf b) : a = b := by
  rw [← be_valOf a, ← be_valOf b, hl, h]

theorem set_ne (l : List UInt8) (j : Nat) (y' : UInt8) (hj : j < l.length) (h : l[j] ≠ y') : l.set j y' ≠ l := by
  intro e
  have : (l.set j y')[j]'(by rw [List.length_set]; exact hj) = l[j] := by simp only [e]
  rw [List.getElem_set_self] at this
  exact h this.symm

/-- A byte of a frame behind the first four is another one: the sum isn't right any more. -/
theorem bit_found (p : List UInt8) (j : Nat) (y' : UInt8) (hj : j < (frameOf p).length) (h4 : 4 ≤ j) (hne : (frameOf p)[j] ≠ y') (hp : p.length ≤ 4000) :
    valOf (((frameOf p).set j y').take 4) = p.length ∧ sumAt ((frameOf p).set j y') ≠ sumOf ((frameOf p).set j y') p.length := by
  have hb := frame_back p [] hp
  rw [List.append_nil] at hb
  obtain ⟨hv, hs, ht, hd⟩ := hb
  have hlen := frameOf_length p
  have t4 : ((frameOf p).set j y').take 4 = (frameOf p).take 4 := by rw [List.take_set, List.set_eq_of_length_le (by rw [List.length_take]; omega)]
  refine ⟨by rw [t4]; exact hv, ?_⟩
  unfold sumAt sumOf at hs ⊢
  rw [t4]
  by_cases h8 : j < 8
  · have d8 : ((frameOf p).set j y').drop 8 = (frameOf p).drop 8 := by rw [List.drop_set, if_pos h8]
    rw [d8, ← hs]
    intro e
    have h := valOf_inj _ _ (by simp) e
    rw [List.drop_set, if_neg (by omega), List.take_set] at h
    refine set_ne _ _ y' ?_ ?_ h
    · rw [List.length_take, List.length_drop]; omega
    · rw [List.getElem_take, List.getElem_drop]
      have : 4 + (j - 4) = j := by omega
      simp only [this]
      exact hne
  · have d4 : (((frameOf p).set j y').drop 4).take 4 = ((frameOf p).drop 4).take 4 := by
      rw [List.drop_set, if_neg (by omega), List.take_set, List.set_eq_of_length_le (by rw [List.length_take]; omega)]
    rw [d4, hs, ht]
    have dset : (((frameOf p).set j y').drop 8).take p.length = p.set (j - 8) y' := by
      rw [List.drop_set, if_neg (by omega), List.take_set, ht]
    rw [dset]
    have hjp : j - 8 < p.length := by omega
    have hpj : p[j - 8] = (frameOf p)[j] := by
      have e1 : p[j - 8] = (((frameOf p).drop 8).take p.length)[j - 8]'(by rw [ht]; exact hjp) := by simp only [ht]
      rw [e1, List.getElem_take, List.getElem_drop]
      have : 8 + (j - 8) = j := by omega
      simp only [this]
    have hsplit : p = p.take (j - 8) ++ p[j - 8] :: p.drop (j - 8 + 1) := by
      rw [List.getElem_cons_drop, List.take_append_drop]
    have hset : p.set (j - 8) y' = p.take (j - 8) ++ y' :: p.drop (j - 8 + 1) := List.set_eq_take_append_cons_drop.trans (by rw [if_pos hjp])
    rw [hset]
    intro e
    have e' : crcOf ((frameOf p).take 4 ++ (p.take (j - 8) ++ p[j - 8] :: p.drop (j - 8 + 1))) = crcOf ((frameOf p).take 4 ++ (p.take (j - 8) ++ y' :: p.drop (j - 8 + 1))) := by rw [← hsplit]; exact e
    rw [← List.append_assoc, ← List.append_assoc] at e'
    exact crcOf_turned _ _ _ _ (by rw [hpj]; exact hne) e'

set_option maxHeartbeats 1000000 in
theorem bits_walk (A : Option Addr) (n cp : Nat) (l : List UInt8) (x : Int) (w : World) (x1 : -9223372036854775808 ≤ x) (x2 : x ≤ 9223372036854775807)
    (hA : Lies w w.heap.size 1 A n (bc l)) (hc : n ≤ cp) (hm : cp ≤ maxLen) :
    Calls Try.prog 8 #[.slice A n cp, .int .i64 x] w fun e w' => e = .returned (.bool true) ∧ Below w.heap.size w w' := by
  obtain ⟨i0, hi, hz0, hz1, hz2⟩ := info_parts Try.info5
  have hn' : n ≤ 9223372036854775807 := by unfold maxLen at hm; omega
  by_cases g1 : 4000 < n
  · go_enter Try.func8, Try.ntmps8
    go_wp2_with fail
    refine (knows_any _).mono ?_
    rintro e w1 ⟨rfl, hb⟩
    go_wp2_with fail
    go_ret
    exact ⟨rfl, hb⟩
  have HL := Lib.hid hA.len
  go_enter Try.func8, Try.ntmps8
  have hAa := hA.next (below_alloc w (.cells #[] 5))
  go_wp2_with (at_builtin; go_must (refine wpList_app _ rfl (.tmp 16) (.tmp 17) 22 rfl w.heap.size 5 i0 (.int .u8 0) 1 1 Try.underlying22 hi hz0 hz1 hz2 rfl (by decide) _ 0 0 [] rfl (own_empty w 5 _ (Nat.le_refl _)) _ A n cp _ rfl hAa (bc_one _) n (bc l) (by omega) rfl (by unfold maxLen; omega) (by omega) (below_alloc w (.cells #[] 5)).size ?_))
  intro A1 c1 w1 ho1 hb1
  have hb01 : Below w.heap.size w w1 := (below_alloc w (.cells #[] 5)).trans hb1
  clear hAa hb1
  go_wp2_with fail
  refine (frame_yes A1 n c1 l w1 (by omega) (Lies.of_own ho1)).mono ?_
  rintro e w2 ⟨A2, c2, rfl, ho2, hb2⟩
  have hb02 : Below w.heap.size w w2 := hb01.trans (hb2.mono hb01.size)
  obtain ⟨g, rfl, hgb⟩ : ∃ g, A2 = some ⟨g, 0, none⟩ ∧ w1.heap.size ≤ g := by
    rcases ho2.2 with ⟨hv, h0⟩ | ⟨g, cap, cur, hv, hg, _⟩
    · omega
    · injection hv with e1; exact ⟨g, e1, hg⟩
  have h8 : (((8 : Int) + (n : Int)) != 8 + (n : Int)) = false := by simp
  clear ho1
  go_wp2_with fail
  obtain ⟨i, hi1, hi2⟩ : ∃ i : Nat, wrap64 ((IntKind.u64.wrap x).tmod (8 * (8 + (n : Int) - 4))) = (i : Int) ∧ i < 8 * (n + 4) := bit_at x n (by omega)
  rw [hi1]
  clear hi1
  have hlen : Hid ((frameOf l).length = 8 + n) := by show _ = _; rw [frameOf_length, HL.out]
  have hj : 4 + i / 8 < (frameOf l).length := by rw [hlen.out]; omega
  have hcell := ho2.cellAt (4 + i / 8) (by omega)
  have hfr := ho2.frozenAt (4 + i / 8)
  have hc2 : (bc (frameOf l))[4 + i / 8]? = some (.int .u8 ((frameOf l)[4 + i / 8].toNat : Int)) := by unfold bc; simp [List.getElem?_eq_getElem hj]
  rw [hc2] at hcell
  clear hc2
  have hy := byte_lt (frameOf l)[4 + i / 8]
  generalize hY : (frameOf l)[4 + i / 8] = y at *
  have HY := Lib.hid hY
  clear hY
  obtain ⟨y', hxor, hyne⟩ := turned y (i % 8) (by omega)
  have hst := (ho2.stored (4 + i / 8) (.int .u8 (y'.toNat : Int))).1
  rw [bc_set] at hst
  have HB := Lib.hid (bit_found l (4 + i / 8) y' hj (by omega) (by rw [HY.out]; exact hyne) (by rw [HL.out]; omega))
  rw [HL.out] at HB
  go_region
  have hb03 : Below w.heap.size w (w2.setCell ⟨g, 4 + i / 8, none⟩ (.int .u8 (y'.toNat : Int))).drew := (hb02.setCell (Nat.le_trans hb01.size hgb) _).drew
  have ho3 : (w2.setCell ⟨g, 4 + i / 8, none⟩ (.int .u8 (y'.toNat : Int))).drew.ownsRow w1.heap.size 5 1 (.slice (some ⟨g, 0, none⟩) (8 + n) c2) (8 + n) (bc ((frameOf l).set (4 + i / 8) y')) := hst
  generalize (w2.setCell ⟨g, 4 + i / 8, none⟩ (.int .u8 (y'.toNat : Int))).drew = w3 at *
  clear hst ho2 hb2 hb01 hb02 hcell hfr hxor HY hj hy hyne
  go_wp2_with fail
  refine (takeFrame_sum _ (8 + n) c2 n _ w3 (own_cap ho3) (by omega) (Lies.of_own ho3) (by omega) HB.out.1 (by omega) (by omega) HB.out.2).mono ?_
  rintro e w4 ⟨rfl, hb4⟩
  have hb04 : Below w.heap.size w w4 := hb03.trans (hb4.mono hb03.size)
  clear ho3 hb4 hb03
  go_wp2_with fail
  refine (knows_any _).mono ?_
  rintro e w5 ⟨rfl, hb5⟩
  have hb05 : Below w.heap.size w w5 := hb04.trans (hb5.mono hb04.size)
  go_wp2_with fail
  go_ret
  exact ⟨rfl, hb05⟩
end Go.Proofs.Ytalggmdnefolfaa
