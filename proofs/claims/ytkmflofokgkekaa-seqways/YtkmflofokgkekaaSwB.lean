/-
  The contracts of swapRangeCmpFunc and rotateCmpFunc. No condition but the ranges.
-/
import Derived.Test.YtkmflofokgkekaaSwA
import Derived.BigRegion
import Derived.BigQuiet
namespace Go.Proofs.Ytkmflofokgkekaa
open Go.RowKit Go.Sort
set_option linter.unusedVariables false
variable {w0 : World} {blk off N : Nat}

set_option maxHeartbeats 2000000 in
theorem swapRange_any (cap a b n lo hi : Nat) (d : Array Ms) (w : World) (R : Row w0 blk off N) (hs : d.size = N) (S : Sw w0 blk off d w) (hab : a + n ≤ b) (hlo : lo ≤ a) (hbn : b + n ≤ hi) (hhi : hi ≤ N) (hsz : N < 4611686018427387904) :
    Calls Try.prog 104 #[.slice (some ⟨blk, off, none⟩) N cap, .int .i64 a, .int .i64 b, .int .i64 n, .func (.func 87) #[] #[]] w fun e w' => e = .returned (.tuple #[]) ∧ ∃ d', Sw w0 blk off d' w' ∧ PermIn lo hi d d' ∧ ∀ t, d'[t]! = swR d a b n t := by
  have S0 := Lib.hid S
  clear S
  go_enter Try.func104, Try.ntmps104
  go_wp2
  go_loopg [10] n (fun g vi wr => ∃ (i : Nat) (dk : Array Ms), vi = .int .i64 i ∧ i ≤ n ∧ n - i ≤ g ∧ Hid (Sw w0 blk off dk wr) ∧ Hid (PermIn lo hi d dk) ∧ Hid (∀ t, dk[t]! = swR d a b i t))
  case atStart => exact ⟨0, d, rfl, Nat.zero_le _, by omega, S0, Lib.hid (permIn_refl _ _ _), Lib.hid (fun t => swR_zero d a b t)⟩
  case round =>
    clear S0
    obtain ⟨i, dk, rfl, hin, hg, S1, P1, V1⟩ := hrel
    by_cases hlt : i < n
    · have hds : dk.size = d.size := P1.out.1
      have hltz : (i : Int) < (n : Int) := by omega
      obtain ⟨ca0, ca1⟩ := S1.out.cell R (hds.trans hs) (i := a + i) (by omega)
      obtain ⟨cb0, cb1⟩ := S1.out.cell R (hds.trans hs) (i := b + i) (by omega)
      obtain ⟨fa0, fa1⟩ := S1.out.fr R (hds.trans hs) (i := a + i) (by omega)
      obtain ⟨fb0, fb1⟩ := S1.out.fr R (hds.trans hs) (i := b + i) (by omega)
      obtain ⟨x1, x2, x3, x4⟩ := S1.out.sw R (hds.trans hs) (a + i) (b + i) (by omega) (by omega)
      have S2 := Lib.hid x4
      have P2 := Lib.hid (permIn_trans _ _ _ _ _ P1.out (swp_permIn dk lo hi (a + i) (b + i) (by omega) (by omega) (by omega) (by omega) (by omega)))
      have V2 := Lib.hid (swR_step d dk a b n i hab hlt (by omega) hds V1.out)
      clear x4 S1 P1 V1
      go_wp2_with fail
      go_region
      all_goals go_wp2
      all_goals go_roundg (n - (i + 1))
      case measure => omega
      case rel => exact ⟨i + 1, _, by go_num, by omega, Nat.le_refl _, S2, P2, V2⟩
    · go_wp2
      go_end0
      have : i = n := by omega
      subst this
      exact ⟨rfl, dk, S1.out, P1.out, V1.out⟩

theorem rotA_eq (d : Array Ms) {a m b a' b' : Nat} (h1 : a = a') (h2 : b = b') (t : Nat) : rotA d a m b t = rotA d a' m b' t := by rw [h1, h2]

set_option maxHeartbeats 2000000 in
theorem rotate_any (cap a m b : Nat) (d : Array Ms) (w : World) (R : Row w0 blk off N) (hs : d.size = N) (S : Sw w0 blk off d w) (ham : a < m) (hmb : m < b) (hb : b ≤ N) (hsz : N < 4611686018427387904) :
    Calls Try.prog 103 #[.slice (some ⟨blk, off, none⟩) N cap, .int .i64 a, .int .i64 m, .int .i64 b, .func (.func 87) #[] #[]] w fun e w' => e = .returned (.tuple #[]) ∧ ∃ d', Sw w0 blk off d' w' ∧ PermIn a b d d' ∧ ∀ t, d'[t]! = rotA d a m b t := by
  have S0 := Lib.hid S
  have i0 : (m : Int) - (a : Int) = ((m - a : Nat) : Int) := by omega
  have j0 : (b : Int) - (m : Int) = ((b - m : Nat) : Int) := by omega
  clear S
  go_enter Try.func103, Try.ntmps103
  go_wp2_with fail
  go_loopg [10, 11] (b - a) (fun g vi vj wr => ∃ (i j : Nat) (dk : Array Ms), vi = .int .i64 i ∧ vj = .int .i64 j ∧ 1 ≤ i ∧ 1 ≤ j ∧ i ≤ m - a ∧ j ≤ b - m ∧ i + j ≤ g ∧ Hid (Sw w0 blk off dk wr) ∧ Hid (PermIn a b d dk) ∧ Hid (∀ t, rotA dk (m - i) m (m + j) t = rotA d a m b t))
  case atStart => exact ⟨m - a, b - m, d, by rw [← i0], by rw [← j0], by omega, by omega, Nat.le_refl _, Nat.le_refl _, by omega, S0, Lib.hid (permIn_refl _ _ _), Lib.hid (rotA_eq d (by omega) (by omega))⟩
  case round =>
    clear S0
    obtain ⟨i, j, dk, rfl, rfl, hi1, hj1, him, hjb, hg, S1, P1, V1⟩ := hrel
    have hds : dk.size = d.size := P1.out.1
    have ei : (m : Int) - (i : Int) = ((m - i : Nat) : Int) := by omega
    rcases Nat.lt_trichotomy i j with hlt | hlt | hlt
    · have hne : ((i : Int) == (j : Int)) = false := beq_eq_false_iff_ne.2 (by omega)
      have hng : ¬ (j : Int) < (i : Int) := by omega
      have hc := swapRange_any (blk := blk) cap (m - i) (m + j - i) i a b dk wr R (hds.trans hs) S1.out (by omega) (by omega) (by omega) (by omega) hsz
      rw [show ((m + j - i : Nat) : Int) = (m : Int) + (j : Int) - (i : Int) by omega] at hc
      have ej : (j : Int) - (i : Int) = ((j - i : Nat) : Int) := by omega
      have HC := Lib.hid hc
      clear hc hs
      go_wp2_with fail
      refine HC.out.mono ?_
      rintro e w' ⟨rfl, d', S', P', V'⟩
      have V2 := Lib.hid (fun t => (rotA_right dk d' m i j (by omega) hlt V' t).trans (V1.out t))
      have P2 := Lib.hid (permIn_trans _ _ _ _ _ P1.out P')
      have S2 := Lib.hid S'
      clear S' P' V' HC S1 P1 V1
      go_wp2_with fail
      go_roundg (gk - 1)
      case measure => omega
      case rel => exact ⟨i, j - i, d', rfl, rfl, by omega, by omega, by omega, by omega, by omega, S2, P2, V2⟩
    · subst hlt
      have hc := swapRange_any (blk := blk) cap (m - i) m i a b dk wr R (hds.trans hs) S1.out (by omega) (by omega) (by omega) (by omega) hsz
      have HC := Lib.hid hc
      clear hc hs
      go_wp2_with fail
      refine HC.out.mono ?_
      rintro e w' ⟨rfl, d', S', P', V'⟩
      go_wp2_with fail
      go_end0
      exact ⟨rfl, d', S', permIn_trans _ _ _ _ _ P1.out P', fun t => ((V' t).trans (rotA_same dk m i (by omega) t)).trans (V1.out t)⟩
    · have hne : ((i : Int) == (j : Int)) = false := beq_eq_false_iff_ne.2 (by omega)
      have hng : (j : Int) < (i : Int) := by omega
      have hc := swapRange_any (blk := blk) cap (m - i) m j a b dk wr R (hds.trans hs) S1.out (by omega) (by omega) (by omega) (by omega) hsz
      have ej : (i : Int) - (j : Int) = ((i - j : Nat) : Int) := by omega
      have HC := Lib.hid hc
      clear hc hs
      go_wp2_with fail
      refine HC.out.mono ?_
      rintro e w' ⟨rfl, d', S', P', V'⟩
      have V2 := Lib.hid (fun t => (rotA_left dk d' m i j (by omega) hlt V' t).trans (V1.out t))
      have P2 := Lib.hid (permIn_trans _ _ _ _ _ P1.out P')
      have S2 := Lib.hid S'
      clear S' P' V' HC S1 P1 V1
      go_wp2_with fail
      go_roundg (gk - 1)
      case measure => omega
      case rel => exact ⟨i - j, j, d', rfl, rfl, by omega, by omega, by omega, by omega, by omega, S2, P2, V2⟩

end Go.Proofs.Ytkmflofokgkekaa
