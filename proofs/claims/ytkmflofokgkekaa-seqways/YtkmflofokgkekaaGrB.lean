/-
  The contract of Check: it tells what is wrong with a graph. No condition.
-/
import Derived.Test.YtkmflofokgkekaaGrA
namespace Go.Proofs.Ytkmflofokgkekaa
open Go.RowKit
set_option linter.unusedVariables false

def CkRel (N : Int) (es : List Ed) (n : Nat) (w : World) (i : Value) (W : World) : Prop :=
  ∃ k : Nat, i = .int .i64 k ∧ k ≤ n ∧ firstErr N es k (es.length - k) = chk N es ∧ Below w.heap.size w W

attribute [local irreducible] wpStill in
theorem check_any (N : Int) (A : Option Addr) (n c : Nat) (es : List Ed) (w : World) (hA : Lies w w.heap.size 3 A n (ec es)) (hnc : n ≤ c) (hn : n ≤ maxLen) :
    Calls Try.prog 38 #[.agg #[.int .i64 N, .slice A n c]] w fun e w' => e = .returned (.int .i64 (chk N es)) ∧ Below w.heap.size w w' := by
  obtain rfl := hA.ed_len
  unfold maxLen at hn
  by_cases h1 : N < 1 ∨ 24 < N
  · have HV := Lib.hid (chk_bad N es h1)
    by_cases h2 : N < 1
    · clear h1
      go_enter Try.func38, Try.ntmps38
      go_wp2
      go_ret
      exact ⟨ret_int HV.out.symm, below_alloc _ _⟩
    · have h3 : 24 < N := by omega
      clear h1
      go_enter Try.func38, Try.ntmps38
      go_wp2
      go_ret
      exact ⟨ret_int HV.out.symm, below_alloc _ _⟩
  obtain ⟨h2, h3⟩ : ¬ N < 1 ∧ ¬ 24 < N := by omega
  by_cases h4 : 80 < es.length
  · have HV := Lib.hid (chk_many N es h1 h4)
    clear h1
    go_enter Try.func38, Try.ntmps38
    go_wp2
    go_ret
    exact ⟨ret_int HV.out.symm, below_alloc _ _⟩
  have HV := Lib.hid (chk_else N es h1 h4)
  clear h1
  go_enter Try.func38, Try.ntmps38
  go_wp2
  go_loopw [22] (fun i W => CkRel N es es.length w i W ∧ Below (w.heap.size + 1) (w.alloc (.cells #[.int .i64 N, .slice A es.length c] 24)) W) (fun i W => es.length - (intOf i).toNat)
  case atStart => exact ⟨⟨0, rfl, Nat.zero_le _, HV.out.symm, below_alloc _ _⟩, Below.refl _ _⟩
  case round =>
    obtain ⟨⟨k, rfl, hk, hf, hb⟩, hb1⟩ := hrel
    have HF := Lib.hid hf
    clear hf
    have c0 : wr.cell? ⟨w.heap.size, 0, none⟩ = some (.int .i64 N) := (hb1.cell (p := ⟨w.heap.size, 0, none⟩) (by simp)).trans (by simp [go_sem])
    have c1 : wr.cell? ⟨w.heap.size, 1, none⟩ = some (.slice A es.length c) := (hb1.cell (p := ⟨w.heap.size, 1, none⟩) (by simp)).trans (by simp [go_sem])
    have hz : w.heap.size + 1 ≤ wr.heap.size := by have := hb1.size; simpa using this
    have hAr := hA.below hb
    have c0a : ∀ o, (wr.alloc o).cell? ⟨w.heap.size, 0, none⟩ = some (.int .i64 N) := fun o => (World.cell?_alloc_lt wr o _ (by show w.heap.size < _; omega)).trans c0
    have c1a : ∀ o, (wr.alloc o).cell? ⟨w.heap.size, 1, none⟩ = some (.slice A es.length c) := fun o => (World.cell?_alloc_lt wr o _ (by show w.heap.size < _; omega)).trans c1
    by_cases hlt : k < es.length
    · have HS := Lib.hid (firstErr_step N es k hlt)
      obtain ⟨ad, rfl, hadb, e0, e1, e2⟩ := hAr.ed k hlt
      have hbn : ∀ o, Below w.heap.size w (wr.alloc o) := fun o => hb.alloc hb.size o
      by_cases hx : edge1 N (eAt es k).1 (eAt es k).2.1 (eAt es k).2.2 = 0
      · by_cases hk0 : k = 0
        · have HE := Lib.hid (show errAt N es k = 0 by unfold errAt; rw [if_pos hx, if_pos hk0])
          have HX := Lib.hid hx
          have hkz : ((k : Int) == 0) = true := by simpa using hk0
          clear hx hk0
          go_wp2_with ((go_at_call 51; (with_reducible refine (checkEdge_any _ _ _ _ _).mono ?_); rintro e w' ⟨rfl, rfl⟩; rw [HX.out]))
          go_roundw
          case rel => exact ⟨⟨k + 1, by go_num, by omega, by rw [← HF.out, HS.out, if_pos HE.out], hbn _⟩, hb1.alloc hz _⟩
          case measure => simp [intOf]; omega
        · obtain ⟨ad', e', _, p0, p1, p2⟩ := hAr.ed (k - 1) (by omega)
          injection e' with e'
          subst e'
          have hpk : ((k : Int) - 1).toNat = k - 1 := by omega
          have hp0 : (0 : Int) ≤ (k : Int) - 1 := by omega
          have hp1 : (k : Int) - 1 < (es.length : Int) := by omega
          have HX := Lib.hid hx
          have hkz : ((k : Int) == 0) = false := by simpa using hk0
          have p0a : ∀ o, (wr.alloc o).cell? (ad.add ((k - 1) * 3)) = some (.int .i64 (eAt es (k - 1)).1) := fun o => (World.cell?_alloc_lt wr o _ (by rw [block_add]; omega)).trans p0
          have p1a : ∀ o, (wr.alloc o).cell? ⟨(ad.add ((k - 1) * 3)).block, (ad.add ((k - 1) * 3)).off + 1, none⟩ = some (.int .i64 (eAt es (k - 1)).2.1) := fun o => (World.cell?_alloc_lt wr o _ (by show (ad.add _).block < _; rw [block_add]; omega)).trans p1
          have p2a : ∀ o, (wr.alloc o).cell? ⟨(ad.add ((k - 1) * 3)).block, (ad.add ((k - 1) * 3)).off + 2, none⟩ = some (.int .i64 (eAt es (k - 1)).2.2) := fun o => (World.cell?_alloc_lt wr o _ (by show (ad.add _).block < _; rw [block_add]; omega)).trans p2
          have HE0 := Lib.hid (show errAt N es k = if cmpE (eAt es k) (eAt es (k - 1)) = 0 then 5 else if cmpE (eAt es k) (eAt es (k - 1)) < 0 then 6 else 0 by unfold errAt; rw [if_pos hx, if_neg hk0])
          have hp2 : (1 : Int) ≤ (k : Int) := by omega
          have hwr : IntKind.i64.wrap ((k : Int) - 1) = (k : Int) - 1 := by rw [IntKind.wrap_i64]; omega
          clear hx hk0 p0 p1 p2
          go_wp2_with ((go_at_call 51; (with_reducible refine (checkEdge_any _ _ _ _ _).mono ?_); rintro e w' ⟨rfl, rfl⟩; rw [HX.out]))
          refine still_tail 7 (by kernel_rfl) (by kernel_rfl) ?_
          simp only [List.take_succ_cons, List.take_zero, List.drop_succ_cons, List.drop_zero]
          iterate 7 still_step
          refine wpStill_nil ?_
          go_wp2_with fail
          refine (compare_any (eAt es k) (eAt es (k - 1)) _).mono ?_
          rintro e w1 ⟨rfl, hb2⟩
          clear hwr hpk
          have hb3 : Below w.heap.size w w1 := (hbn _).drew.trans (hb2.mono (by have := (hbn (.cells #[] 0)).size; simp at this ⊢; omega))
          have hb4 : Below (w.heap.size + 1) (w.alloc (.cells #[.int .i64 N, .slice (some ad) es.length c] 24)) w1 := (hb1.alloc hz _).drew.trans (hb2.mono (by simp; omega))
          by_cases q0 : cmpE (eAt es k) (eAt es (k - 1)) = 0
          · have HR := Lib.hid (show chk N es = 5 by rw [← HF.out, HS.out, if_neg (by rw [HE0.out, if_pos q0]; decide), HE0.out, if_pos q0])
            have q1 : (cmpE (eAt es k) (eAt es (k - 1)) == 0) = true := by simpa using q0
            clear q0
            go_wp2_with fail
            go_ret
            exact ⟨ret_int HR.out.symm, hb3⟩
          · have q1 : (cmpE (eAt es k) (eAt es (k - 1)) == 0) = false := by simpa using q0
            by_cases q2 : cmpE (eAt es k) (eAt es (k - 1)) < 0
            · have HR := Lib.hid (show chk N es = 6 by rw [← HF.out, HS.out, if_neg (by rw [HE0.out, if_neg q0, if_pos q2]; decide), HE0.out, if_neg q0, if_pos q2])
              clear q0
              go_wp2_with fail
              go_ret
              exact ⟨ret_int HR.out.symm, hb3⟩
            · have HE := Lib.hid (show errAt N es k = 0 by rw [HE0.out, if_neg q0, if_neg q2])
              clear q0
              go_wp2_with fail
              go_roundw
              case rel => exact ⟨⟨k + 1, by go_num, by omega, by rw [← HF.out, HS.out, if_pos HE.out], hb3⟩, hb4⟩
              case measure => simp [intOf]; omega
      · have HX := Lib.hid (show errAt N es k = edge1 N (eAt es k).1 (eAt es k).2.1 (eAt es k).2.2 by unfold errAt; rw [if_neg hx])
        have HR := Lib.hid (show chk N es = edge1 N (eAt es k).1 (eAt es k).2.1 (eAt es k).2.2 by rw [← HF.out, HS.out, if_neg (by rw [HX.out]; exact hx), HX.out])
        have hx1 : (edge1 N (eAt es k).1 (eAt es k).2.1 (eAt es k).2.2 != 0) = true := by simpa using hx
        clear hx
        go_wp2_with ((go_at_call 51; (with_reducible refine (checkEdge_any _ _ _ _ _).mono ?_); rintro e w' ⟨rfl, rfl⟩))
        go_ret
        exact ⟨ret_int HR.out.symm, hbn _⟩
    · go_wp2_with fail
      go_ret
      exact ⟨ret_int (by rw [← HF.out]; exact (firstErr_end N es k (by omega)).symm), hb⟩
end Go.Proofs.Ytkmflofokgkekaa
