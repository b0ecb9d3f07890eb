/-
  The contract of the document's own Check. No condition.
-/
import Derived.Test.YtkmflofokgkekaaGrA
namespace Go.Proofs.Ytkmflofokgkekaa
open Go.RowKit
set_option linter.unusedVariables false

theorem edge1_four {N a b c : Int} (h : a < 0 ∨ N ≤ a ∨ b < 0 ∨ N ≤ b) : edge1 N a b c = 4 := by unfold edge1; rw [if_pos h]
theorem edge1_one {N a b c : Int} (h : ¬ (a < 0 ∨ N ≤ a ∨ b < 0 ∨ N ≤ b)) (h2 : c < 0 ∨ 4611686018427387904 < c) : edge1 N a b c = 1 := by unfold edge1; rw [if_neg h, if_pos h2]
theorem errAt_edge {N : Int} {es : List Ed} {k : Nat} {v : Int} (h : edge1 N (eAt es k).1 (eAt es k).2.1 (eAt es k).2.2 = v) (hv : v ≠ 0) : errAt N es k = v := by
  unfold errAt; rw [h, if_neg hv]

def RkRel (N : Int) (es : List Ed) (n : Nat) (w : World) (i : Value) (W : World) : Prop :=
  ∃ k : Nat, i = .int .i64 k ∧ k ≤ n ∧ firstErr N es k (es.length - k) = chk N es ∧ Below w.heap.size w W

set_option maxHeartbeats 1000000 in
set_option maxRecDepth 100000 in
theorem rcheck_any (N : Int) (A : Option Addr) (n c : Nat) (es : List Ed) (w : World) (hA : Lies w w.heap.size 3 A n (ec es)) (hnc : n ≤ c) (hn : n ≤ maxLen) :
    Calls Try.prog 30 #[.agg #[.int .i64 N, .slice A n c]] w fun e w' => e = .returned (.int .i64 (chk N es)) ∧ Below w.heap.size w w' := by
  obtain rfl := hA.ed_len
  unfold maxLen at hn
  by_cases h1 : N < 1 ∨ 24 < N
  · have HV := Lib.hid (chk_bad N es h1)
    by_cases h2 : N < 1
    · clear h1
      go_enter Try.func30, Try.ntmps30
      go_wp2
      go_ret
      exact ⟨ret_int HV.out.symm, below_alloc _ _⟩
    · have h3 : 24 < N := by omega
      clear h1
      go_enter Try.func30, Try.ntmps30
      go_wp2
      go_ret
      exact ⟨ret_int HV.out.symm, below_alloc _ _⟩
  obtain ⟨h2, h3⟩ : ¬ N < 1 ∧ ¬ 24 < N := by omega
  by_cases h4 : 80 < es.length
  · have HV := Lib.hid (chk_many N es h1 h4)
    clear h1
    go_enter Try.func30, Try.ntmps30
    go_wp2
    go_ret
    exact ⟨ret_int HV.out.symm, below_alloc _ _⟩
  have HV := Lib.hid (chk_else N es h1 h4)
  clear h1
  go_enter Try.func30, Try.ntmps30
  go_wp2
  go_loopw [3] (fun i W => RkRel N es es.length w i W ∧ Below (w.heap.size + 1) (w.alloc (.cells #[.int .i64 N, .slice A es.length c] 24)) W) (fun i W => es.length - (intOf i).toNat)
  case atStart => exact ⟨⟨0, rfl, Nat.zero_le _, HV.out.symm, below_alloc _ _⟩, Below.refl _ _⟩
  case round =>
    obtain ⟨⟨k, rfl, hk, hf, hb⟩, hb1⟩ := hrel
    have HF := Lib.hid hf
    clear hf
    have c0 : wr.cell? ⟨w.heap.size, 0, none⟩ = some (.int .i64 N) := (hb1.cell (p := ⟨w.heap.size, 0, none⟩) (by simp)).trans (by simp [go_sem])
    have c1 : wr.cell? ⟨w.heap.size, 1, none⟩ = some (.slice A es.length c) := (hb1.cell (p := ⟨w.heap.size, 1, none⟩) (by simp)).trans (by simp [go_sem])
    have hz : w.heap.size + 1 ≤ wr.heap.size := by have := hb1.size; simpa using this
    have hAr := hA.below hb
    have c0a : ∀ o, (wr.alloc o).cell? ⟨w.heap.size, 0, none⟩ = some (.int .i64 N) := fun o => (World.cell?_alloc_lt wr o _ (by show w.heap.size < _; omega)).trans c0
    have c1a : ∀ o, (wr.alloc o).cell? ⟨w.heap.size, 1, none⟩ = some (.slice A es.length c) := fun o => (World.cell?_alloc_lt wr o _ (by show w.heap.size < _; omega)).trans c1
    by_cases hlt : k < es.length
    · have HS := Lib.hid (firstErr_step N es k hlt)
      have bad : ∀ v, v ≠ 0 → errAt N es k = v → chk N es = v := fun v hv he => by rw [← HF.out, HS.out, if_neg (by rw [he]; exact hv), he]
      have good : errAt N es k = 0 → firstErr N es (k + 1) (es.length - (k + 1)) = chk N es := fun he => by rw [← HF.out, HS.out, if_pos he]
      have BAD := Lib.hid bad
      have GOOD := Lib.hid good
      clear bad good
      obtain ⟨ad, rfl, hadb, e0, e1, e2⟩ := hAr.ed k hlt
      have hbn : ∀ o, Below w.heap.size w (wr.alloc o) := fun o => hb.alloc hb.size o
      by_cases hx : (eAt es k).1 < 0 ∨ N ≤ (eAt es k).1 ∨ (eAt es k).2.1 < 0 ∨ N ≤ (eAt es k).2.1
      · have HR := Lib.hid (BAD.out 4 (by decide) (errAt_edge (edge1_four hx) (by decide)))
        by_cases x1 : (eAt es k).1 < 0
        · clear hx
          go_wp2_with fail
          go_ret
          exact ⟨ret_int HR.out.symm, hbn _⟩
        by_cases x2 : (eAt es k).2.1 < 0
        · clear hx
          go_wp2_with fail
          go_ret
          exact ⟨ret_int HR.out.symm, hbn _⟩
        by_cases x3 : N ≤ (eAt es k).1
        · clear hx
          go_wp2_with fail
          go_ret
          exact ⟨ret_int HR.out.symm, hbn _⟩
        · have x4 : N ≤ (eAt es k).2.1 := by omega
          clear hx
          go_wp2_with fail
          go_ret
          exact ⟨ret_int HR.out.symm, hbn _⟩
      · obtain ⟨x1, x2, x3, x4⟩ : ¬ (eAt es k).1 < 0 ∧ ¬ (eAt es k).2.1 < 0 ∧ ¬ N ≤ (eAt es k).1 ∧ ¬ N ≤ (eAt es k).2.1 := by omega
        by_cases hy : (eAt es k).2.2 < 0 ∨ 4611686018427387904 < (eAt es k).2.2
        · have HR := Lib.hid (BAD.out 1 (by decide) (errAt_edge (edge1_one hx hy) (by decide)))
          clear hx
          by_cases y1 : (eAt es k).2.2 < 0
          · clear hy
            go_wp2_with fail
            go_ret
            exact ⟨ret_int HR.out.symm, hbn _⟩
          · have y2 : 4611686018427387904 < (eAt es k).2.2 := by omega
            clear hy
            go_wp2_with fail
            go_ret
            exact ⟨ret_int HR.out.symm, hbn _⟩
        · obtain ⟨y1, y2⟩ : ¬ (eAt es k).2.2 < 0 ∧ ¬ 4611686018427387904 < (eAt es k).2.2 := by omega
          have hz0 : edge1 N (eAt es k).1 (eAt es k).2.1 (eAt es k).2.2 = 0 := by unfold edge1; rw [if_neg hx, if_neg hy]
          clear hx hy
          by_cases hk0 : k = 0
          · have HE := Lib.hid (show errAt N es k = 0 by unfold errAt; rw [if_pos hz0, if_pos hk0])
            have hkz : (k : Int) ≤ 0 := by omega
            clear hk0 hz0
            go_wp2_with fail
            go_roundw
            case rel => exact ⟨⟨k + 1, by go_num, by omega, GOOD.out HE.out, hbn _⟩, hb1.alloc hz _⟩
            case measure => simp [intOf]; omega
          · obtain ⟨ad', e', _, p0, p1, p2⟩ := hAr.ed (k - 1) (by omega)
            injection e' with e'
            subst e'
            have HE0 := Lib.hid (show errAt N es k = if cmpE (eAt es k) (eAt es (k - 1)) = 0 then 5 else if cmpE (eAt es k) (eAt es (k - 1)) < 0 then 6 else 0 by unfold errAt; rw [if_pos hz0, if_neg hk0])
            have hpk : ((k : Int) - 1).toNat = k - 1 := by omega
            have hp0 : (0 : Int) ≤ (k : Int) - 1 := by omega
            have hp1 : (k : Int) - 1 < (es.length : Int) := by omega
            have hkz : ¬ (k : Int) ≤ 0 := by omega
            have p0a : ∀ o, (wr.alloc o).cell? (ad.add ((k - 1) * 3)) = some (.int .i64 (eAt es (k - 1)).1) := fun o => (World.cell?_alloc_lt wr o _ (by rw [block_add]; omega)).trans p0
            have p1a : ∀ o, (wr.alloc o).cell? ⟨(ad.add ((k - 1) * 3)).block, (ad.add ((k - 1) * 3)).off + 1, none⟩ = some (.int .i64 (eAt es (k - 1)).2.1) := fun o => (World.cell?_alloc_lt wr o _ (by show (ad.add _).block < _; rw [block_add]; omega)).trans p1
            have p2a : ∀ o, (wr.alloc o).cell? ⟨(ad.add ((k - 1) * 3)).block, (ad.add ((k - 1) * 3)).off + 2, none⟩ = some (.int .i64 (eAt es (k - 1)).2.2) := fun o => (World.cell?_alloc_lt wr o _ (by show (ad.add _).block < _; rw [block_add]; omega)).trans p2
            have hbnn : ∀ o o', Below w.heap.size w ((wr.alloc o).alloc o') := fun o o' => (hbn o).alloc (by have := (hbn o).size; exact this) o'
            have hb1n : ∀ o o', Below (w.heap.size + 1) (w.alloc (.cells #[.int .i64 N, .slice (some ad) es.length c] 24)) ((wr.alloc o).alloc o') := fun o o' => (hb1.alloc hz o).alloc (by simp; omega) o'
            have HK0 := Lib.hid hz0
            clear hk0 hz0 p0 p1 p2
            by_cases q : (eAt es (k - 1)).1 = (eAt es k).1 ∧ (eAt es (k - 1)).2.1 = (eAt es k).2.1
            · have HR := Lib.hid (BAD.out 5 (by decide) (by rw [HE0.out, if_pos (cmpE_zero.2 ⟨q.1.symm, q.2.symm⟩)]))
              obtain ⟨q1, q2⟩ := q
              have r1 : ((eAt es (k - 1)).1 == (eAt es k).1) = true := by simpa using q1
              have r2 : ((eAt es (k - 1)).2.1 == (eAt es k).2.1) = true := by simpa using q2
              clear q1 q2
              go_wp2_with fail
              go_ret
              exact ⟨ret_int HR.out.symm, hbnn _ _⟩
            · have nz : ¬ cmpE (eAt es k) (eAt es (k - 1)) = 0 := fun h => q ⟨(cmpE_zero.1 h).1.symm, (cmpE_zero.1 h).2.symm⟩
              by_cases t : ltE (eAt es k) (eAt es (k - 1))
              · have HR := Lib.hid (BAD.out 6 (by decide) (by rw [HE0.out, if_neg nz, if_pos (cmpE_neg.2 t)]))
                clear nz
                by_cases q1 : (eAt es (k - 1)).1 = (eAt es k).1
                · have r1 : ((eAt es (k - 1)).1 == (eAt es k).1) = true := by simpa using q1
                  have r2 : ((eAt es (k - 1)).2.1 == (eAt es k).2.1) = false := by simpa using fun h => q ⟨q1, h⟩
                  have r3 : ¬ (eAt es k).1 < (eAt es (k - 1)).1 := by omega
                  have r4 : (eAt es k).2.1 < (eAt es (k - 1)).2.1 := by unfold ltE at t; omega
                  clear q q1 t
                  go_wp2_with fail
                  go_ret
                  exact ⟨ret_int HR.out.symm, hbnn _ _⟩
                · have r1 : ((eAt es (k - 1)).1 == (eAt es k).1) = false := by simpa using q1
                  have r3 : (eAt es k).1 < (eAt es (k - 1)).1 := by unfold ltE at t; omega
                  clear q q1 t
                  go_wp2_with fail
                  go_ret
                  exact ⟨ret_int HR.out.symm, hbnn _ _⟩
              · have HE := Lib.hid (show errAt N es k = 0 by rw [HE0.out, if_neg nz, if_neg (fun h => t (cmpE_neg.1 h))])
                clear nz
                by_cases q1 : (eAt es (k - 1)).1 = (eAt es k).1
                · have r1 : ((eAt es (k - 1)).1 == (eAt es k).1) = true := by simpa using q1
                  have r2 : ((eAt es (k - 1)).2.1 == (eAt es k).2.1) = false := by simpa using fun h => q ⟨q1, h⟩
                  have r3 : ¬ (eAt es k).1 < (eAt es (k - 1)).1 := by omega
                  have r4 : ¬ (eAt es k).2.1 < (eAt es (k - 1)).2.1 := by unfold ltE at t; omega
                  clear q q1 t
                  go_wp2_with fail
                  go_roundw
                  case rel => exact ⟨⟨k + 1, by go_num, by omega, GOOD.out HE.out, hbnn _ _⟩, hb1n _ _⟩
                  case measure => simp [intOf]; omega
                · have r1 : ((eAt es (k - 1)).1 == (eAt es k).1) = false := by simpa using q1
                  have r3 : ¬ (eAt es k).1 < (eAt es (k - 1)).1 := by unfold ltE at t; omega
                  clear q q1 t
                  go_wp2_with fail
                  go_roundw
                  case rel => exact ⟨⟨k + 1, by go_num, by omega, GOOD.out HE.out, hbnn _ _⟩, hb1n _ _⟩
                  case measure => simp [intOf]; omega
    · go_wp2_with fail
      go_ret
      exact ⟨ret_int (by rw [← HF.out]; exact (firstErr_end N es k (by omega)).symm), hb⟩
end Go.Proofs.Ytkmflofokgkekaa
