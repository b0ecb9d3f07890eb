/-
  The contracts of symMergeCmpFunc (for all ranges), stableCmpFunc and SortStableFunc: the row is sorted, and has the same messages. No condition.
-/
import Derived.Test.YtkmflofokgkekaaSwD
import Derived.Test.YtkmflofokgkekaaSwE
namespace Go.Proofs.Ytkmflofokgkekaa
open Go.RowKit Go.Sort
set_option linter.unusedVariables false
variable {w0 : World} {blk off N : Nat}

theorem sym_all (cap : Nat) (R : Row w0 blk off N) (hsz : N < 4611686018427387904) : ∀ L, SymIH w0 blk off N cap L := by
  intro L
  induction L with
  | zero => intro a m b d w S hs h1 h2 h3 h4; omega
  | succ L ih =>
    intro a m b d w S hs ham hmb hb hL hA hB
    by_cases h1 : m = a + 1
    · subst h1
      exact sym1_any cap a b d w R hs S hmb hb hsz hB
    by_cases h2 : b = m + 1
    · subst h2
      exact sym2_any cap a m d w R hs S (by omega) hb hsz hA
    have IH : SymIH w0 blk off N cap (b - a) := fun a' m' b' d' w' S' hs' k1 k2 k3 k4 => ih a' m' b' d' w' S' hs' k1 k2 k3 (by omega)
    by_cases h3 : (a + b) / 2 < m
    · exact sym3a_any cap a m b _ d w R hs S (by omega) (by omega) hb hsz hA hB rfl h3 IH
    · exact sym3b_any cap a m b _ d w R hs S (by omega) (by omega) hb hsz hA hB rfl (by omega) IH

set_option maxHeartbeats 2000000 in
set_option maxRecDepth 20000 in
theorem stable_any (cap : Nat) (d : Array Ms) (w : World) (R : Row w0 blk off N) (hs : d.size = N) (S : Sw w0 blk off d w) (hsz : N < 1152921504606846976) :
    Calls Try.prog 98 #[.slice (some ⟨blk, off, none⟩) N cap, .int .i64 N, .func (.func 87) #[] #[]] w fun e w' => e = .returned (.tuple #[]) ∧ ∃ d', Sw w0 blk off d' w' ∧ PermIn 0 N d d' ∧ SortedIn ltM 0 N d' := by
  have S0 := Lib.hid S
  have HS := Lib.hid hs
  have HY := Lib.hid (sym_all (blk := blk) cap R (by omega))
  clear S hs
  go_enter Try.func98, Try.ntmps98
  go_wp2_with fail
  go_loopg [7, 8] N (fun g va vb wr => ∃ (A B q : Nat) (dk : Array Ms), va = .int .i64 A ∧ vb = .int .i64 B ∧ Hid (B = A + 20) ∧ A ≤ N ∧ N - A ≤ g ∧ Hid (A = q * 20) ∧ Hid (Sw w0 blk off dk wr) ∧ Hid (PermIn 0 N d dk) ∧ Hid (BlkTo ltM 20 N q dk))
  case atStart => exact ⟨0, 20, 0, d, rfl, rfl, Lib.hid rfl, Nat.zero_le _, by omega, Lib.hid rfl, S0, Lib.hid (permIn_refl _ _ _), Lib.hid (fun k hk => by omega)⟩
  case round =>
    clear S0
    obtain ⟨A, B, q, dk, rfl, rfl, HBA, hAN, hg, HA, S1, P1, K1⟩ := hrel
    have hdk : dk.size = N := P1.out.1.trans HS.out
    have hBA := HBA.out
    have hBl : B ≤ N + 20 := by omega
    by_cases hlt : B ≤ N
    · have hz : (B : Int) ≤ (N : Int) := by omega
      have HC := Lib.hid (ins_any (blk := blk) cap A B dk _ R hdk S1.out (by omega) hlt (by omega))
      have HD := Lib.hid hdk
      clear hdk S1 hBA
      go_wp2_with fail
      with_reducible refine HC.out.mono ?_
      rintro e w2 ⟨rfl, d2, S2, P2, T2⟩
      have S3 := Lib.hid S2
      have P3 := Lib.hid (permIn_trans _ _ _ _ _ P1.out (permIn_mono dk d2 A B 0 N (Nat.zero_le _) hlt (by rw [HD.out]; exact Nat.le_refl _) P2))
      have K3 := Lib.hid (show BlkTo ltM 20 N (q + 1) d2 from by
        rw [HBA.out, HA.out] at P2 T2
        exact K1.out.step (by rw [HD.out]; exact Nat.le_refl _) P2 T2)
      have HA2 := Lib.hid (show B = (q + 1) * 20 by have := HA.out; have := HBA.out; omega)
      clear S2 P2 T2 HC P1 K1 HD HA
      go_wp2_with fail
      go_roundg (N - B)
      case measure => have := HBA.out; omega
      case rel => exact ⟨B, B + 20, q + 1, d2, rfl, by go_num, Lib.hid rfl, hlt, Nat.le_refl _, HA2, S3, P3, K3⟩
    · have hz : ¬ (B : Int) ≤ (N : Int) := by omega
      have HC := Lib.hid (ins_any (blk := blk) cap A N dk _ R hdk S1.out hAN (Nat.le_refl _) (by omega))
      have HD := Lib.hid hdk
      clear hdk S1 hBA
      go_wp2_with fail
      with_reducible refine HC.out.mono ?_
      rintro e w2 ⟨rfl, d2, S2, P2, T2⟩
      have S3 := Lib.hid S2
      have P3 := Lib.hid (permIn_trans _ _ _ _ _ P1.out (permIn_mono dk d2 A N 0 N (Nat.zero_le _) (Nat.le_refl _) (by rw [HD.out]; exact Nat.le_refl _) P2))
      have K3 := Lib.hid (show Blk ltM 20 N d2 from by
        have hA := HA.out
        have hB2 := HBA.out
        rw [HA.out] at P2 T2
        exact K1.out.last (by omega) P2 T2)
      clear S2 P2 T2 HC P1 K1 HD HA hAN HBA hBl hlt hz hg
      go_wp2_with fail
      go_loopg [6] N (fun g vs wr => ∃ (s : Nat) (dk : Array Ms), vs = .int .i64 s ∧ 20 ≤ s ∧ s ≤ 2 * N + 20 ∧ N - s ≤ g ∧ Hid (Sw w0 blk off dk wr) ∧ Hid (PermIn 0 N d dk) ∧ Hid (Blk ltM s N dk))
      case atStart => exact ⟨20, d2, rfl, Nat.le_refl _, by omega, by omega, S3, P3, K3⟩
      case round =>
        clear S3 P3 K3
        obtain ⟨s, dk, rfl, hs20, hs2, hg, S1, P1, K1⟩ := hrel
        by_cases hlt : s < N
        · have hz : (s : Int) < (N : Int) := by omega
          go_wp2_with fail
          go_loopg [7, 8] N (fun g va vb wr => ∃ (A B q : Nat) (dk : Array Ms), va = .int .i64 A ∧ vb = .int .i64 B ∧ Hid (B = A + 2 * s) ∧ A ≤ N ∧ N - A ≤ g ∧ Hid (A = q * (2 * s)) ∧ Hid (Sw w0 blk off dk wr) ∧ Hid (PermIn 0 N d dk) ∧ Hid (BlkAt ltM s N q dk))
          case atStart => exact ⟨0, 2 * s, 0, dk, rfl, by go_num, Lib.hid (by omega), Nat.zero_le _, by omega, Lib.hid (by omega), S1, P1, Lib.hid (Blk.at s N dk K1.out)⟩
          case round =>
            clear S1 P1 K1
            obtain ⟨A, B, q, dk, rfl, rfl, HBA, hAN, hg3, HA, S1, P1, K1⟩ := hrel
            have hdk : dk.size = N := P1.out.1.trans HS.out
            have hBA := HBA.out
            have hBl : B ≤ N + 2 * s := by omega
            have E := K1.out.ends
            rw [← HA.out] at E
            have EE := Lib.hid E
            clear E
            by_cases hB : B ≤ N
            · have hz2 : (B : Int) ≤ (N : Int) := by omega
              have hc := (HY.out (B - A + 1) A (A + s) B dk _ S1.out hdk (by omega) (by omega) hB (by omega)
                (by have := EE.out.1; rw [show min (A + s) N = A + s by omega] at this; exact this) (by have := EE.out.2; rw [show min (A + 2 * s) N = B by omega] at this; exact this))
              rw [show ((A + s : Nat) : Int) = (A : Int) + (s : Int) by omega] at hc
              have HC := Lib.hid hc
              have HD := Lib.hid hdk
              clear hc hdk S1 EE hBA
              go_wp2_with fail
              with_reducible refine HC.out.mono ?_
              rintro e w2 ⟨rfl, d2, S2, P2, T2⟩
              have S3 := Lib.hid S2
              have P3 := Lib.hid (permIn_trans _ _ _ _ _ P1.out (permIn_mono dk d2 A B 0 N (Nat.zero_le _) hB (by rw [HD.out]; exact Nat.le_refl _) P2))
              have K3 := Lib.hid (show BlkAt ltM s N (q + 1) d2 from by
                rw [HA.out] at P2 T2
                exact K1.out.step B (by rw [← HA.out]; have := HBA.out; omega) P2 T2)
              have HA2 := Lib.hid (show B = (q + 1) * (2 * s) by rw [Nat.add_mul, Nat.one_mul, ← HA.out]; exact HBA.out)
              clear S2 P2 T2 HC P1 K1 HD HA
              go_wp2_with fail
              go_roundg (N - B)
              case measure => have := HBA.out; omega
              case rel => exact ⟨B, B + 2 * s, q + 1, d2, rfl, by go_num, Lib.hid rfl, hB, Nat.le_refl _, HA2, S3, P3, K3⟩
            · have hz2 : ¬ (B : Int) ≤ (N : Int) := by omega
              by_cases hm : A + s < N
              · have hz3 : (A : Int) + (s : Int) < (N : Int) := by omega
                have hc := (HY.out (N - A + 1) A (A + s) N dk _ S1.out hdk (by omega) hm (Nat.le_refl _) (by omega)
                  (by have := EE.out.1; rw [show min (A + s) N = A + s by omega] at this; exact this) (by have := EE.out.2; rw [show min (A + 2 * s) N = N by omega] at this; exact this))
                rw [show ((A + s : Nat) : Int) = (A : Int) + (s : Int) by omega] at hc
                have HC := Lib.hid hc
                have HD := Lib.hid hdk
                clear hc hdk S1 EE hBA
                go_wp2_with fail
                with_reducible refine HC.out.mono ?_
                rintro e w2 ⟨rfl, d2, S2, P2, T2⟩
                have S3 := Lib.hid S2
                have P3 := Lib.hid (permIn_trans _ _ _ _ _ P1.out (permIn_mono dk d2 A N 0 N (Nat.zero_le _) (Nat.le_refl _) (by rw [HD.out]; exact Nat.le_refl _) P2))
                have K3 := Lib.hid (show Blk ltM (2 * s) N d2 from by
                  rw [HA.out] at P2 T2
                  exact (K1.out.step N (by rw [← HA.out]; have := HBA.out; omega) P2 T2).done (by rw [Nat.add_mul, Nat.one_mul, ← HA.out]; have := HBA.out; omega))
                clear S2 P2 T2 HC P1 K1 HD HA
                go_wp2_with fail
                go_roundg (N - 2 * s)
                case measure => omega
                case rel => exact ⟨2 * s, d2, by first | go_num | (congr 1; omega), by omega, by omega, Nat.le_refl _, S3, P3, K3⟩
              · have hz3 : ¬ (A : Int) + (s : Int) < (N : Int) := by omega
                have K3 := Lib.hid (show Blk ltM (2 * s) N dk from K1.out.done (by rw [← HA.out]; omega))
                clear hdk K1 HA EE hBA
                go_wp2_with fail
                go_roundg (N - 2 * s)
                case measure => omega
                case rel => exact ⟨2 * s, dk, by first | go_num | (congr 1; omega), by omega, by omega, Nat.le_refl _, S1, P1, K3⟩
        · have hz : ¬ (s : Int) < (N : Int) := by omega
          go_wp2_with fail
          go_end0
          exact ⟨rfl, dk, S1.out, P1.out, K1.out.whole (by omega)⟩

end Go.Proofs.Ytkmflofokgkekaa
