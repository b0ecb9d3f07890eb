import Derived.Test.YtpgdddjjjfkneaaGreatDoorKi
import Derived.Sort.WalkA
import Derived.Test.YtpgdddjjjfkneaaGreatDoorKk
/-
  The contract of insertionSortCmpFunc. No condition but the range.
-/
namespace Go.Proofs.YtpgdddjjjfkneaaGreatDoor
open Go.RowKit Go.Sort
set_option linter.unusedVariables false
variable {w0 : World} {blk off N : Nat}

set_option maxHeartbeats 2000000 in
set_option maxRecDepth 20000 in
theorem ins_any (cap a b : Nat) (d : Array Ms) (w : World) (R : Row w0 blk off N) (hs : d.size = N) (S : Sw w0 blk off d w) (hab : a ≤ b) (hb : b ≤ N) (hsz : N < 4611686018427387904) :
    Calls Tryz.prog 109 #[.slice (some ⟨blk, off, none⟩) N cap, .int .i64 a, .int .i64 b, .func (.func 85) #[] #[]] w fun e w' => e = .returned (.tuple #[]) ∧ ∃ d', Sw w0 blk off d' w' ∧ PermIn a b d d' ∧ SortedIn ltM a b d' := by
  have mixed : Tryz.prog.follows .mixedOrders = true := by kernel_rfl
  have S0 := Lib.hid S
  have HS := Lib.hid hs
  clear S hs
  go_enter Tryz.func109, Tryz.ntmps109
  go_wp2_with fail
  go_loopg [8] (b - a) (fun g1 vi wr => ∃ (i : Nat) (dk : Array Ms), vi = .int .i64 i ∧ a < i ∧ i ≤ b + 1 ∧ b + 1 - i ≤ g1 + 1 ∧ Hid (dk.size = N) ∧ Hid (Sw w0 blk off dk wr) ∧ Hid (insOuter ltM a b i dk = insOuter ltM a b (a + 1) d))
  case atStart => exact ⟨a + 1, d, by go_num, by omega, by omega, by omega, HS, S0, rfl⟩
  case round =>
    clear S0
    obtain ⟨i, dk, rfl, hai, hib, hg1, HD, S1, HO⟩ := hrel
    by_cases hlt : i < b
    · have hltz : (i : Int) < (b : Int) := by omega
      go_wp2_with fail
      go_loopg [9] i (fun g2 vj wr2 => ∃ (j : Nat) (dj : Array Ms), vj = .int .i64 j ∧ a ≤ j ∧ j ≤ i ∧ j ≤ g2 ∧ Hid (dj.size = N) ∧ Hid (Sw w0 blk off dj wr2) ∧ Hid (insInner ltM a j dj = insInner ltM a i dk))
      case atStart => exact ⟨i, dk, rfl, by omega, Nat.le_refl _, Nat.le_refl _, HD, S1, rfl⟩
      case round =>
        clear S1
        obtain ⟨j, dj, rfl, haj, hji, hg2, HJ, S1, HI⟩ := hrel
        have OUT : Hid ((j ≤ a ∨ ltM dj[j]! dj[j - 1]! = false) → insOuter ltM a b (i + 1) dj = insOuter ltM a b (a + 1) d) := fun hs => by
          rw [← HO.out, insOuter_go _ _ _ _ _ hlt, ← HI.out, insInner_stop _ _ _ _ hs]
        by_cases hja : a < j
        · obtain ⟨jp, rfl⟩ : ∃ jp, j = jp + 1 := ⟨j - 1, by omega⟩
          have hjaz : (a : Int) < (jp : Int) + 1 := by omega
          have ha0 := S1.out.ld R HJ.out (i := jp) (by rw [HJ.out]; omega)
          have hh0 := S1.out.ld R HJ.out (i := jp + 1) (by rw [HJ.out]; omega)
          have hcg := S1.out.cmp dj[jp + 1]! dj[jp]!
          have za : (jp : Int) < (N : Int) := by omega
          have zb : (jp : Int) + 1 < (N : Int) := by omega
          have wj : IntKind.i64.wrap (jp : Int) = (jp : Int) := by rw [IntKind.wrap_i64]; omega
          have p0 : (0 : Int) ≤ (jp : Int) + 1 := by omega
          have e0 : ((jp : Int) + 1).toNat = jp + 1 := by omega
          have a0 := fun n os => (ha0 n os).1
          have a1 := fun n os => (ha0 n os).2
          have b0 := fun n os => (hh0 n os).1
          have b1 := fun n os => (hh0 n os).2
          clear ha0 hh0
          generalize hxa : dj[jp]! = xa at a0 a1 hcg
          generalize hxh : dj[jp + 1]! = xh at b0 b1 hcg
          have HX := Lib.hid (And.intro hxa hxh)
          clear hxa hxh
          by_cases hl : cmpM xh xa < 0
          · have HN := Lib.hid (show insInner ltM a jp (swp dj (jp + 1) jp) = insInner ltM a i dk from by
              have := insInner_go ltM a (jp + 1) dj hja (by simp only [Nat.add_sub_cancel]; rw [HX.out.1, HX.out.2]; exact decide_eq_true hl)
              simp only [Nat.add_sub_cancel] at this
              rw [← HI.out, this])
            clear OUT HI
            go_wp2_with fail
            go_quiet_grown (refine Calls.grown_of (hcg _ _))
            have S3 := Lib.hid (S1.out.grown nq osq)
            clear S1 a0 a1 b0 b1 hcg HX
            generalize grow (wr.drewN nq) osq = W3 at S3 ⊢
            obtain ⟨ca0, ca1⟩ := S3.out.cell R HJ.out (i := jp) (by rw [HJ.out]; omega)
            obtain ⟨cb0, cb1⟩ := S3.out.cell R HJ.out (i := jp + 1) (by rw [HJ.out]; omega)
            obtain ⟨fa0, fa1⟩ := S3.out.fr R HJ.out (i := jp) (by rw [HJ.out]; omega)
            obtain ⟨fb0, fb1⟩ := S3.out.fr R HJ.out (i := jp + 1) (by rw [HJ.out]; omega)
            obtain ⟨x1, x2, x3, x4⟩ := S3.out.sw R HJ.out (jp + 1) jp (by rw [HJ.out]; omega) (by rw [HJ.out]; omega)
            have S2 := Lib.hid x4
            have HJ2 := Lib.hid (show (swp dj (jp + 1) jp).size = N by rw [size_swp]; exact HJ.out)
            clear x4 S3
            go_wp2_with fail
            go_region
            all_goals go_wp2_with fail
            all_goals go_roundg jp
            case measure => omega
            case rel => exact ⟨jp, _, by first | rfl | go_num, by omega, by omega, Nat.le_refl _, HJ2, S2, HN⟩
          · have HN := Lib.hid (OUT.out (.inr (by simp only [Nat.add_sub_cancel]; rw [HX.out.1, HX.out.2]; exact decide_eq_false hl)))
            clear OUT HI
            go_wp2_with fail
            go_quiet_grown (refine Calls.grown_of (hcg _ _))
            go_wp2_with fail
            go_roundg (b - (i + 1))
            case measure => omega
            case rel => exact ⟨i + 1, dj, by go_num, by omega, by omega, by omega, HJ, Lib.hid (S1.out.grown nq osq), HN⟩
        · have HN := Lib.hid (OUT.out (.inl (by omega)))
          have hjaz : ¬ (a : Int) < (j : Int) := by omega
          clear OUT HI
          go_wp2_with fail
          go_region
          all_goals go_wp2_with fail
          all_goals go_roundg (b - (i + 1))
          case measure => omega
          case rel => exact ⟨i + 1, dj, by go_num, by omega, by omega, by omega, HJ, Lib.hid S1.out.drew, HN⟩
    · have hltz : ¬ (i : Int) < (b : Int) := by omega
      go_wp2_with fail
      go_end0
      have e := HO.out
      rw [insOuter_stop _ _ _ _ _ hlt] at e
      have := insertionSort_holds (lt := ltM) ltM_swo d a b hab (by rw [HS.out]; exact hb)
      unfold insertionSort at this
      rw [← e] at this
      exact ⟨rfl, dk, S1.out, this.1, this.2⟩
end Go.Proofs.YtpgdddjjjfkneaaGreatDoor

/-
  The contracts of symMergeCmpFunc (for all ranges), stableCmpFunc and SortStableFunc: the row is sorted, and has the same messages. No condition.
-/
namespace Go.Proofs.YtpgdddjjjfkneaaGreatDoor
open Go.RowKit Go.Sort
set_option linter.unusedVariables false
variable {w0 : World} {blk off N : Nat}

theorem sym_all (cap : Nat) (R : Row w0 blk off N) (hsz : N < 4611686018427387904) : ∀ L, SymIH w0 blk off N cap L := by
  intro L
  induction L with
  | zero => intro a m b d w S hs h1 h2 h3 h4; omega
  | succ L ih =>
    intro a m b d w S hs ham hmb hb hL hA hB
    by_cases h1 : m = a + 1
    · subst h1
      exact sym1_any cap a b d w R hs S hmb hb hsz hB
    by_cases h2 : b = m + 1
    · subst h2
      exact sym2_any cap a m d w R hs S (by omega) hb hsz hA
    have IH : SymIH w0 blk off N cap (b - a) := fun a' m' b' d' w' S' hs' k1 k2 k3 k4 => ih a' m' b' d' w' S' hs' k1 k2 k3 (by omega)
    by_cases h3 : (a + b) / 2 < m
    · exact sym3a_any cap a m b _ d w R hs S (by omega) (by omega) hb hsz hA hB rfl h3 IH
    · exact sym3b_any cap a m b _ d w R hs S (by omega) (by omega) hb hsz hA hB rfl (by omega) IH
set_option maxHeartbeats 2000000 in
set_option maxRecDepth 20000 in
theorem stable_any (cap : Nat) (d : Array Ms) (w : World) (R : Row w0 blk off N) (hs : d.size = N) (S : Sw w0 blk off d w) (hsz : N < 1152921504606846976) :
    Calls Tryz.prog 127 #[.slice (some ⟨blk, off, none⟩) N cap, .int .i64 N, .func (.func 85) #[] #[]] w fun e w' => e = .returned (.tuple #[]) ∧ ∃ d', Sw w0 blk off d' w' ∧ PermIn 0 N d d' ∧ SortedIn ltM 0 N d' := by
  have S0 := Lib.hid S
  have HS := Lib.hid hs
  have HY := Lib.hid (sym_all (blk := blk) cap R (by omega))
  clear S hs
  go_enter Tryz.func127, Tryz.ntmps127
  go_wp2_with fail
  go_loopg [7, 8] N (fun g va vb wr => ∃ (A B q : Nat) (dk : Array Ms), va = .int .i64 A ∧ vb = .int .i64 B ∧ Hid (B = A + 20) ∧ A ≤ N ∧ N - A ≤ g ∧ Hid (A = q * 20) ∧ Hid (Sw w0 blk off dk wr) ∧ Hid (PermIn 0 N d dk) ∧ Hid (BlkTo ltM 20 N q dk))
  case atStart => exact ⟨0, 20, 0, d, rfl, rfl, Lib.hid rfl, Nat.zero_le _, by omega, Lib.hid rfl, S0, Lib.hid (permIn_refl _ _ _), Lib.hid (fun k hk => by omega)⟩
  case round =>
    clear S0
    obtain ⟨A, B, q, dk, rfl, rfl, HBA, hAN, hg, HA, S1, P1, K1⟩ := hrel
    have hdk : dk.size = N := P1.out.1.trans HS.out
    have hBA := HBA.out
    have hBl : B ≤ N + 20 := by omega
    by_cases hlt : B ≤ N
    · have hz : (B : Int) ≤ (N : Int) := by omega
      have HC := Lib.hid (ins_any (blk := blk) cap A B dk _ R hdk S1.out (by omega) hlt (by omega))
      have HD := Lib.hid hdk
      clear hdk S1 hBA
      go_wp2_with fail
      with_reducible refine HC.out.mono ?_
      rintro e w2 ⟨rfl, d2, S2, P2, T2⟩
      have S3 := Lib.hid S2
      have P3 := Lib.hid (permIn_trans _ _ _ _ _ P1.out (permIn_mono dk d2 A B 0 N (Nat.zero_le _) hlt (by rw [HD.out]; exact Nat.le_refl _) P2))
      have K3 := Lib.hid (show BlkTo ltM 20 N (q + 1) d2 from by
        rw [HBA.out, HA.out] at P2 T2
        exact K1.out.step (by rw [HD.out]; exact Nat.le_refl _) P2 T2)
      have HA2 := Lib.hid (show B = (q + 1) * 20 by have := HA.out; have := HBA.out; omega)
      clear S2 P2 T2 HC P1 K1 HD HA
      go_wp2_with fail
      go_roundg (N - B)
      case measure => have := HBA.out; omega
      case rel => exact ⟨B, B + 20, q + 1, d2, rfl, by go_num, Lib.hid rfl, hlt, Nat.le_refl _, HA2, S3, P3, K3⟩
    · have hz : ¬ (B : Int) ≤ (N : Int) := by omega
      have HC := Lib.hid (ins_any (blk := blk) cap A N dk _ R hdk S1.out hAN (Nat.le_refl _) (by omega))
      have HD := Lib.hid hdk
      clear hdk S1 hBA
      go_wp2_with fail
      with_reducible refine HC.out.mono ?_
      rintro e w2 ⟨rfl, d2, S2, P2, T2⟩
      have S3 := Lib.hid S2
      have P3 := Lib.hid (permIn_trans _ _ _ _ _ P1.out (permIn_mono dk d2 A N 0 N (Nat.zero_le _) (Nat.le_refl _) (by rw [HD.out]; exact Nat.le_refl _) P2))
      have K3 := Lib.hid (show Blk ltM 20 N d2 from by
        have hA := HA.out
        have hB2 := HBA.out
        rw [HA.out] at P2 T2
        exact K1.out.last (by omega) P2 T2)
      clear S2 P2 T2 HC P1 K1 HD HA hAN HBA hBl hlt hz hg
      go_wp2_with fail
      go_loopg [6] N (fun g vs wr => ∃ (s : Nat) (dk : Array Ms), vs = .int .i64 s ∧ 20 ≤ s ∧ s ≤ 2 * N + 20 ∧ N - s ≤ g ∧ Hid (Sw w0 blk off dk wr) ∧ Hid (PermIn 0 N d dk) ∧ Hid (Blk ltM s N dk))
      case atStart => exact ⟨20, d2, rfl, Nat.le_refl _, by omega, by omega, S3, P3, K3⟩
      case round =>
        clear S3 P3 K3
        obtain ⟨s, dk, rfl, hs20, hs2, hg, S1, P1, K1⟩ := hrel
        by_cases hlt : s < N
        · have hz : (s : Int) < (N : Int) := by omega
          go_wp2_with fail
          go_loopg [7, 8] N (fun g va vb wr => ∃ (A B q : Nat) (dk : Array Ms), va = .int .i64 A ∧ vb = .int .i64 B ∧ Hid (B = A + 2 * s) ∧ A ≤ N ∧ N - A ≤ g ∧ Hid (A = q * (2 * s)) ∧ Hid (Sw w0 blk off dk wr) ∧ Hid (PermIn 0 N d dk) ∧ Hid (BlkAt ltM s N q dk))
          case atStart => exact ⟨0, 2 * s, 0, dk, rfl, by go_num, Lib.hid (by omega), Nat.zero_le _, by omega, Lib.hid (by omega), S1, P1, Lib.hid (Blk.at s N dk K1.out)⟩
          case round =>
            clear S1 P1 K1
            obtain ⟨A, B, q, dk, rfl, rfl, HBA, hAN, hg3, HA, S1, P1, K1⟩ := hrel
            have hdk : dk.size = N := P1.out.1.trans HS.out
            have hBA := HBA.out
            have hBl : B ≤ N + 2 * s := by omega
            have E := K1.out.ends
            rw [← HA.out] at E
            have EE := Lib.hid E
            clear E
            by_cases hB : B ≤ N
            · have hz2 : (B : Int) ≤ (N : Int) := by omega
              have hc := (HY.out (B - A + 1) A (A + s) B dk _ S1.out hdk (by omega) (by omega) hB (by omega)
                (by have := EE.out.1; rw [show min (A + s) N = A + s by omega] at this; exact this) (by have := EE.out.2; rw [show min (A + 2 * s) N = B by omega] at this; exact this))
              rw [show ((A + s : Nat) : Int) = (A : Int) + (s : Int) by omega] at hc
              have HC := Lib.hid hc
              have HD := Lib.hid hdk
              clear hc hdk S1 EE hBA
              go_wp2_with fail
              with_reducible refine HC.out.mono ?_
              rintro e w2 ⟨rfl, d2, S2, P2, T2⟩
              have S3 := Lib.hid S2
              have P3 := Lib.hid (permIn_trans _ _ _ _ _ P1.out (permIn_mono dk d2 A B 0 N (Nat.zero_le _) hB (by rw [HD.out]; exact Nat.le_refl _) P2))
              have K3 := Lib.hid (show BlkAt ltM s N (q + 1) d2 from by
                rw [HA.out] at P2 T2
                exact K1.out.step B (by rw [← HA.out]; have := HBA.out; omega) P2 T2)
              have HA2 := Lib.hid (show B = (q + 1) * (2 * s) by rw [Nat.add_mul, Nat.one_mul, ← HA.out]; exact HBA.out)
              clear S2 P2 T2 HC P1 K1 HD HA
              go_wp2_with fail
              go_roundg (N - B)
              case measure => have := HBA.out; omega
              case rel => exact ⟨B, B + 2 * s, q + 1, d2, rfl, by go_num, Lib.hid rfl, hB, Nat.le_refl _, HA2, S3, P3, K3⟩
            · have hz2 : ¬ (B : Int) ≤ (N : Int) := by omega
              by_cases hm : A + s < N
              · have hz3 : (A : Int) + (s : Int) < (N : Int) := by omega
                have hc := (HY.out (N - A + 1) A (A + s) N dk _ S1.out hdk (by omega) hm (Nat.le_refl _) (by omega)
                  (by have := EE.out.1; rw [show min (A + s) N = A + s by omega] at this; exact this) (by have := EE.out.2; rw [show min (A + 2 * s) N = N by omega] at this; exact this))
                rw [show ((A + s : Nat) : Int) = (A : Int) + (s : Int) by omega] at hc
                have HC := Lib.hid hc
                have HD := Lib.hid hdk
                clear hc hdk S1 EE hBA
                go_wp2_with fail
                with_reducible refine HC.out.mono ?_
                rintro e w2 ⟨rfl, d2, S2, P2, T2⟩
                have S3 := Lib.hid S2
                have P3 := Lib.hid (permIn_trans _ _ _ _ _ P1.out (permIn_mono dk d2 A N 0 N (Nat.zero_le _) (Nat.le_refl _) (by rw [HD.out]; exact Nat.le_refl _) P2))
                have K3 := Lib.hid (show Blk ltM (2 * s) N d2 from by
                  rw [HA.out] at P2 T2
                  exact (K1.out.step N (by rw [← HA.out]; have := HBA.out; omega) P2 T2).done (by rw [Nat.add_mul, Nat.one_mul, ← HA.out]; have := HBA.out; omega))
                clear S2 P2 T2 HC P1 K1 HD HA
                go_wp2_with fail
                go_roundg (N - 2 * s)
                case measure => omega
                case rel => exact ⟨2 * s, d2, by first | go_num | (congr 1; omega), by omega, by omega, Nat.le_refl _, S3, P3, K3⟩
              · have hz3 : ¬ (A : Int) + (s : Int) < (N : Int) := by omega
                have K3 := Lib.hid (show Blk ltM (2 * s) N dk from K1.out.done (by rw [← HA.out]; omega))
                clear hdk K1 HA EE hBA
                go_wp2_with fail
                go_roundg (N - 2 * s)
                case measure => omega
                case rel => exact ⟨2 * s, dk, by first | go_num | (congr 1; omega), by omega, by omega, Nat.le_refl _, S1, P1, K3⟩
        · have hz : ¬ (s : Int) < (N : Int) := by omega
          go_wp2_with fail
          go_end0
          exact ⟨rfl, dk, S1.out, P1.out, K1.out.whole (by omega)⟩
end Go.Proofs.YtpgdddjjjfkneaaGreatDoor


