import Derived.Test.YtgdgjkdigbohlaaRgF
/-
  The document's examples hold (knows); the walks of RingMixes, RingPlaces, RingOwns and RingTotal. No condition.
-/
namespace Go.Proofs.Ytgdgjkdigbohlaa
open Go.ChangeShapes Go.WideShapes Go.ChangeAt Go.RowKit
set_option linter.unusedVariables false

theorem lies_two (w : World) (a b : Int) : Lies (w.alloc (.cells #[.int .i64 a, .int .i64 b] 3)) (w.heap.size + 1) 1 (some ⟨w.heap.size, 0, none⟩) 2 (vc [a, b]) := lies_cells w (vc [a, b]) 3 2 1 rfl
theorem lies_1 (w : World) (a : Int) : Lies (w.alloc (.cells #[.int .i64 a] 3)) (w.heap.size + 1) 1 (some ⟨w.heap.size, 0, none⟩) 1 (vc [a]) := lies_cells w (vc [a]) 3 1 1 rfl
theorem kn_a : ownsR [7] 3 = ownL [7] 3 ∧ ownsE [7] 3 = 0 := okL_yes (by decide)
theorem kn_b : ownR [1, 2] 0 = ownI [1, 2] 0 ∧ ownE [1, 2] 0 = 0 := okO_yes (by decide)
theorem kn_c : ownI [1, 2] 0 = 1 ∨ ownI [1, 2] 0 = 2 := by
  have := own_mem (ms := [1, 2]) (by decide) 0
  simpa using this
theorem kn_d : (ownL [7] 3)[2]? = some 7 := by
  rw [ownL_at (by decide)]
  have := own_mem (ms := [7]) (by decide) 2
  simpa using this
theorem kn_e : rgt [1, 2] = true := by decide
theorem kn_f (w : World) : Calls Try.prog 9 #[.int .u64 1] w fun e w' => e = .returned (.int .u64 6238072747940578789) ∧ w = w' := by
  have h := mix_any 1 w (by decide)
  rw [mixN_1] at h
  exact h
theorem kn_g (w : World) : Calls Try.prog 9 #[.int .u64 0] w fun e w' => e = .returned (.int .u64 0) ∧ w = w' := by
  have h := mix_any 0 w (by decide)
  rw [mixN_0] at h
  exact h
set_option maxHeartbeats 2000000 in
theorem knows_any (w : World) : Calls Try.prog 11 #[] w fun e w' => e = .returned (.bool true) ∧ Below w.heap.size w w' := by
  have HL1 := Lib.hid (lies_1 w 7)
  have HB1 := Lib.hid (below_alloc w (.cells #[.int .i64 7] 3))
  have C1 := Lib.hid (fun (W : World) (h : Lies W W.heap.size 1 (some ⟨w.heap.size, 0, none⟩) [7].length (vc [7])) => show Calls Try.prog 16 #[.slice (some ⟨w.heap.size, 0, none⟩) 1 1, .int .i64 3] W (OlPost (ownsR [7] 3) (ownsE [7] 3) W) from owners_any _ 1 [7] 3 W h (by decide))
  go_enter Try.func11, Try.ntmps11
  go_wp2_with fail
  refine (C1.out _ (by have := HL1.out; simpa using this)).mono ?_
  rw [kn_a.1, kn_a.2]
  rintro e w2 ⟨D, d, rfl, ho, hb⟩
  have HB2 := Lib.hid (HB1.out.trans (hb.mono HB1.out.size))
  obtain ⟨ad, rfl, hadb, e0⟩ := (Lies.of_own ho).2 2 (.int .i64 7) (by unfold vc; rw [List.getElem?_map, kn_d]; rfl)
  have E0 := Lib.hid (show ∀ W : World, Below w2.heap.size w2 W → W.cell? (ad.add 2) = some (.int .i64 7) from fun W hb => (hb.cell (p := ad.add 2) (by rw [block_add]; exact hadb)).trans e0)
  have HL2 := Lib.hid (lies_two w2 1 2)
  have HB3 := Lib.hid (below_alloc w2 (.cells #[.int .i64 1, .int .i64 2] 3))
  have C2 := Lib.hid (fun (W : World) (h : Lies W W.heap.size 1 (some ⟨w2.heap.size, 0, none⟩) [1, 2].length (vc [1, 2])) => show Calls Try.prog 21 #[.slice (some ⟨w2.heap.size, 0, none⟩) 2 2, .int .i64 0] W (fun e w' => e = .returned (.tuple #[.int .i64 (ownR [1, 2] 0), .int .i64 (ownE [1, 2] 0)]) ∧ Below W.heap.size W w') from owner_any _ 2 [1, 2] 0 W h (by decide))
  rw [kn_b.1, kn_b.2] at C2
  have HLL := Lib.hid (ownL_len [7] 3)
  clear ho hb e0
  rw [HLL.out]
  go_wp2_with fail
  refine (C2.out _ (by have := HL2.out; simpa using this)).mono ?_
  rintro e w3 ⟨rfl, hb3⟩
  have HB4 := Lib.hid (HB3.out.trans (hb3.mono HB3.out.size))
  have e0 : w3.cell? ⟨ad.block, ad.off + 2, none⟩ = some (.int .i64 7) := E0.out w3 HB4.out
  have HB5 := Lib.hid (HB2.out.trans (HB4.out.mono HB2.out.size))
  have K := kn_c
  generalize ownI [1, 2] 0 = x at K ⊢
  have HL4 := Lib.hid (lies_two w3 1 2)
  have HB6 := Lib.hid (HB5.out.trans ((below_alloc w3 (.cells #[.int .i64 1, .int .i64 2] 3)).mono HB5.out.size))
  have C3 := Lib.hid (fun (W : World) (h : Lies W W.heap.size 1 (some ⟨w3.heap.size, 0, none⟩) [1, 2].length (vc [1, 2])) => show Calls Try.prog 19 #[.slice (some ⟨w3.heap.size, 0, none⟩) 2 2] W (fun e w' => e = .returned (.bool (rgt [1, 2])) ∧ W = w') from right_any _ 2 [1, 2] W h (by decide))
  rw [kn_e] at C3
  clear hb3
  rcases K with rfl | rfl
  all_goals
    go_wp2_with fail
    refine (kn_f _).mono ?_
    rintro e w4 ⟨rfl, rfl⟩
    go_wp2_with fail
    refine (kn_g _).mono ?_
    rintro e w4 ⟨rfl, rfl⟩
    go_wp2_with fail
    refine (C3.out (w3.alloc (.cells #[.int .i64 1, .int .i64 2] 3)) (by have := HL4.out; simpa using this)).mono ?_
    rintro e w4 ⟨rfl, rfl⟩
    go_wp2_with fail
    go_ret
    exact ⟨rfl, HB6.out⟩
end Go.Proofs.Ytgdgjkdigbohlaa
