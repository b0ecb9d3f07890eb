/-
  The contract of insertionSortCmpFunc. No condition but the range.
-/
import Derived.Test.YtkmflofokgkekaaSwB
import Derived.Sort.WalkA
namespace Go.Proofs.Ytkmflofokgkekaa
open Go.RowKit Go.Sort
set_option linter.unusedVariables false
variable {w0 : World} {blk off N : Nat}

set_option maxHeartbeats 2000000 in
set_option maxRecDepth 20000 in
theorem ins_any (cap a b : Nat) (d : Array Ms) (w : World) (R : Row w0 blk off N) (hs : d.size = N) (S : Sw w0 blk off d w) (hab : a ≤ b) (hb : b ≤ N) (hsz : N < 4611686018427387904) :
    Calls Try.prog 101 #[.slice (some ⟨blk, off, none⟩) N cap, .int .i64 a, .int .i64 b, .func (.func 87) #[] #[]] w fun e w' => e = .returned (.tuple #[]) ∧ ∃ d', Sw w0 blk off d' w' ∧ PermIn a b d d' ∧ SortedIn ltM a b d' := by
  have mixed : Try.prog.follows .mixedOrders = true := by kernel_rfl
  have S0 := Lib.hid S
  have HS := Lib.hid hs
  clear S hs
  go_enter Try.func101, Try.ntmps101
  go_wp2_with fail
  go_loopg [8] (b - a) (fun g1 vi wr => ∃ (i : Nat) (dk : Array Ms), vi = .int .i64 i ∧ a < i ∧ i ≤ b + 1 ∧ b + 1 - i ≤ g1 + 1 ∧ Hid (dk.size = N) ∧ Hid (Sw w0 blk off dk wr) ∧ Hid (insOuter ltM a b i dk = insOuter ltM a b (a + 1) d))
  case atStart => exact ⟨a + 1, d, by go_num, by omega, by omega, by omega, HS, S0, rfl⟩
  case round =>
    clear S0
    obtain ⟨i, dk, rfl, hai, hib, hg1, HD, S1, HO⟩ := hrel
    by_cases hlt : i < b
    · have hltz : (i : Int) < (b : Int) := by omega
      go_wp2_with fail
      go_loopg [9] i (fun g2 vj wr2 => ∃ (j : Nat) (dj : Array Ms), vj = .int .i64 j ∧ a ≤ j ∧ j ≤ i ∧ j ≤ g2 ∧ Hid (dj.size = N) ∧ Hid (Sw w0 blk off dj wr2) ∧ Hid (insInner ltM a j dj = insInner ltM a i dk))
      case atStart => exact ⟨i, dk, rfl, by omega, Nat.le_refl _, Nat.le_refl _, HD, S1, rfl⟩
      case round =>
        clear S1
        obtain ⟨j, dj, rfl, haj, hji, hg2, HJ, S1, HI⟩ := hrel
        have OUT : Hid ((j ≤ a ∨ ltM dj[j]! dj[j - 1]! = false) → insOuter ltM a b (i + 1) dj = insOuter ltM a b (a + 1) d) := fun hs => by
          rw [← HO.out, insOuter_go _ _ _ _ _ hlt, ← HI.out, insInner_stop _ _ _ _ hs]
        by_cases hja : a < j
        · obtain ⟨jp, rfl⟩ : ∃ jp, j = jp + 1 := ⟨j - 1, by omega⟩
          have hjaz : (a : Int) < (jp : Int) + 1 := by omega
          have ha0 := S1.out.ld R HJ.out (i := jp) (by rw [HJ.out]; omega)
          have hh0 := S1.out.ld R HJ.out (i := jp + 1) (by rw [HJ.out]; omega)
          have hcg := S1.out.cmp dj[jp + 1]! dj[jp]!
          have za : (jp : Int) < (N : Int) := by omega
          have zb : (jp : Int) + 1 < (N : Int) := by omega
          have wj : IntKind.i64.wrap (jp : Int) = (jp : Int) := by rw [IntKind.wrap_i64]; omega
          have p0 : (0 : Int) ≤ (jp : Int) + 1 := by omega
          have e0 : ((jp : Int) + 1).toNat = jp + 1 := by omega
          have a0 := fun n os => (ha0 n os).1
          have a1 := fun n os => (ha0 n os).2
          have b0 := fun n os => (hh0 n os).1
          have b1 := fun n os => (hh0 n os).2
          clear ha0 hh0
          generalize hxa : dj[jp]! = xa at a0 a1 hcg
          generalize hxh : dj[jp + 1]! = xh at b0 b1 hcg
          have HX := Lib.hid (And.intro hxa hxh)
          clear hxa hxh
          by_cases hl : cmpM xh xa < 0
          · have HN := Lib.hid (show insInner ltM a jp (swp dj (jp + 1) jp) = insInner ltM a i dk from by
              have := insInner_go ltM a (jp + 1) dj hja (by simp only [Nat.add_sub_cancel]; rw [HX.out.1, HX.out.2]; exact decide_eq_true hl)
              simp only [Nat.add_sub_cancel] at this
              rw [← HI.out, this])
            clear OUT HI
            go_wp2_with fail
            go_quiet_grown (refine Calls.grown_of (hcg _ _))
            have S3 := Lib.hid (S1.out.grown nq osq)
            clear S1 a0 a1 b0 b1 hcg HX
            generalize grow (wr.drewN nq) osq = W3 at S3 ⊢
            obtain ⟨ca0, ca1⟩ := S3.out.cell R HJ.out (i := jp) (by rw [HJ.out]; omega)
            obtain ⟨cb0, cb1⟩ := S3.out.cell R HJ.out (i := jp + 1) (by rw [HJ.out]; omega)
            obtain ⟨fa0, fa1⟩ := S3.out.fr R HJ.out (i := jp) (by rw [HJ.out]; omega)
            obtain ⟨fb0, fb1⟩ := S3.out.fr R HJ.out (i := jp + 1) (by rw [HJ.out]; omega)
            obtain ⟨x1, x2, x3, x4⟩ := S3.out.sw R HJ.out (jp + 1) jp (by rw [HJ.out]; omega) (by rw [HJ.out]; omega)
            have S2 := Lib.hid x4
            have HJ2 := Lib.hid (show (swp dj (jp + 1) jp).size = N by rw [size_swp]; exact HJ.out)
            clear x4 S3
            go_wp2_with fail
            go_region
            all_goals go_wp2_with fail
            all_goals go_roundg jp
            case measure => omega
            case rel => exact ⟨jp, _, by first | rfl | go_num, by omega, by omega, Nat.le_refl _, HJ2, S2, HN⟩
          · have HN := Lib.hid (OUT.out (.inr (by simp only [Nat.add_sub_cancel]; rw [HX.out.1, HX.out.2]; exact decide_eq_false hl)))
            clear OUT HI
            go_wp2_with fail
            go_quiet_grown (refine Calls.grown_of (hcg _ _))
            go_wp2_with fail
            go_roundg (b - (i + 1))
            case measure => omega
            case rel => exact ⟨i + 1, dj, by go_num, by omega, by omega, by omega, HJ, Lib.hid (S1.out.grown nq osq), HN⟩
        · have HN := Lib.hid (OUT.out (.inl (by omega)))
          have hjaz : ¬ (a : Int) < (j : Int) := by omega
          clear OUT HI
          go_wp2_with fail
          go_region
          all_goals go_wp2_with fail
          all_goals go_roundg (b - (i + 1))
          case measure => omega
          case rel => exact ⟨i + 1, dj, by go_num, by omega, by omega, by omega, HJ, Lib.hid S1.out.drew, HN⟩
    · have hltz : ¬ (i : Int) < (b : Int) := by omega
      go_wp2_with fail
      go_end0
      have e := HO.out
      rw [insOuter_stop _ _ _ _ _ hlt] at e
      have := insertionSort_holds (lt := ltM) ltM_swo d a b hab (by rw [HS.out]; exact hb)
      unfold insertionSort at this
      rw [← e] at this
      exact ⟨rfl, dk, S1.out, this.1, this.2⟩

end Go.Proofs.Ytkmflofokgkekaa
