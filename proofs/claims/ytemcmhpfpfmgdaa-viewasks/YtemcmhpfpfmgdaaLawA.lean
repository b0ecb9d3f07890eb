import Derived.Test.YtemcmhpfpfmgdaaVh
import Derived.Test.YtemcmhpfpfmgdaaVi
import Derived.Test.YtemcmhpfpfmgdaaVj
import Derived.Test.YtemcmhpfpfmgdaaVd
import Derived.Deep.RegionHeld3
/-
  The walk of ViewAsks. No condition but that the numbers are of 64 bits.
-/
namespace Go.Proofs.Ytemcmhpfpfmgdaa
open Go.ChangeShapes Go.WideShapes Go.ChangeAt Go.RowKit Go.Maps
set_option linter.unusedVariables false

set_option maxHeartbeats 4000000 in
set_option maxRecDepth 20000 in
theorem asks_walk (num : Int) (A : Option Addr) (c : Nat) (l : List Mb) (n id inc : Int) (w : World) (hA : Lies w w.heap.size 2 A l.length (mc l)) (hl : l.length ≤ maxLen) (hw : (Lit.int .i64 id).wf = true) :
    Calls Try.prog 4 #[.agg #[.int .i64 num, .slice A l.length c], .int .i64 n, .int .i64 id, .int .i64 inc] w fun e w' => e = .returned (.bool true) ∧ Below w.heap.size w w' := by
  have HA := Lib.hid hA
  have HB1 := Lib.hid (below_alloc w (.cells #[.int .i64 num, .slice A l.length c] 24))
  have h1 := World.alloc_heap_new w (.cells #[.int .i64 num, .slice A l.length c] 24)
  have HZ1 := Lib.hid (show w.heap.size < (w.alloc (.cells #[.int .i64 num, .slice A l.length c] 24)).heap.size by simp)
  clear hA
  go_enter Try.func4, Try.ntmps4
  go_upto_region 1 with fail
  generalize w.alloc (.cells #[.int .i64 num, .slice A l.length c] 24) = w1 at HB1 h1 HZ1 ⊢
  have d0 := c2_0 h1
  have d1 := c2_1 h1
  go_wp2_with fail
  refine (great_any num A c l.length _ hl).mono ?_
  rintro e w2 ⟨rfl, hb2⟩
  have HB := Lib.hid (HB1.out.trans (hb2.mono HB1.out.size))
  have H2 := Lib.hid ((hb2.block _ HZ1.out).trans h1)
  have HZ2 := Lib.hid (show w.heap.size < w2.heap.size from Nat.lt_of_lt_of_le HZ1.out hb2.size)
  clear d0 d1 h1 hb2
  have d0 := c2_0 H2.out
  have d1 := c2_1 H2.out
  by_cases hg : 50 < l.length
  · have hg' := decide_eq_true hg
    rw [hg']
    clear hg hg'
    go_wp2_with fail
    refine (knows_any _).mono ?_
    rintro e w3 ⟨rfl, hb3⟩
    have HB3 := Lib.hid (HB.out.trans (hb3.mono HB.out.size))
    clear hb3
    go_wp2_with fail
    go_ret
    exact ⟨rfl, HB3.out⟩
  · have hg' := decide_eq_false hg
    have hl50 : l.length ≤ 50 := by omega
    rw [hg']
    clear hg hg'
    go_wp2_with fail
    refine (as_any num A c l _ (HA.out.next HB.out) (by omega)).mono ?_
    rintro e w3 ⟨A2, c2, rfl, ho3, hb3⟩
    simp only at ho3
    have HB4 := Lib.hid (hb3.trans ((below_alloc w3 (.cells #[.int .i64 num, .slice A2 l.length c2] 30)).mono hb3.size))
    have H4 := Lib.hid (World.alloc_heap_new w3 (.cells #[.int .i64 num, .slice A2 l.length c2] 30))
    have HO4 := Lib.hid (own_next ho3 (below_alloc w3 (.cells #[.int .i64 num, .slice A2 l.length c2] 30)))
    have HZ4 := Lib.hid (show w3.heap.size < (w3.alloc (.cells #[.int .i64 num, .slice A2 l.length c2] 30)).heap.size by simp)
    have HS23 := Lib.hid hb3.size
    clear d0 d1 ho3 hb3
    go_upto_region 4 with fail
    generalize w3.alloc (.cells #[.int .i64 num, .slice A2 l.length c2] 30) = w4 at HB4 H4 HO4 HZ4 ⊢
    have HF := Lib.hid (show ∀ W : World, Below w4.heap.size w4 W → W.cell? ⟨w.heap.size, 0, none⟩ = some (.int .i64 num) ∧ W.cell? ⟨w.heap.size, 1, none⟩ = some (.slice A l.length c) ∧ W.cell? ⟨w3.heap.size, 0, none⟩ = some (.int .i64 num) ∧ W.cell? ⟨w3.heap.size, 1, none⟩ = some (.slice A2 l.length c2) ∧ Below w4.heap.size w4 W by
      intro W hb
      have h24 := (hb.block w.heap.size (Nat.lt_of_lt_of_le HZ2.out HB4.out.size)).trans ((HB4.out.block w.heap.size HZ2.out).trans H2.out)
      have h4 := (hb.block w3.heap.size HZ4.out).trans H4.out
      exact ⟨c2_0 h24, c2_1 h24, c2_0 h4, c2_1 h4, hb⟩)
    have LA := Lib.hid (show ∀ W : World, Below w4.heap.size w4 W → Lies W W.heap.size 2 A l.length (mc l) from fun W hb => HA.out.next (HB.out.trans ((HB4.out.trans (hb.mono HB4.out.size)).mono HB.out.size)))
    have LB := Lib.hid (show ∀ W : World, Below w4.heap.size w4 W → Lies W W.heap.size 2 A2 l.length (mc l) from fun W hb => (Lies.of_own HO4.out).next hb)
    have C18 := Lib.hid (fun (W : World) (hb : Below w4.heap.size w4 W) => inc_any num A c l id W (LA.out W hb) (by omega) hw)
    have C19 := Lib.hid (fun (W : World) (hb : Below w4.heap.size w4 W) => rinc_any num A2 c2 l id W (LB.out W hb) (by omega))
    have C21 := Lib.hid (fun (W : World) (hb : Below w4.heap.size w4 W) => ids_any num A c l W (LA.out W hb) (by omega))
    have C22 := Lib.hid (fun (W : World) (hb : Below w4.heap.size w4 W) => rids_any num A2 c2 l W (LB.out W hb) (by omega))
    have C23 := Lib.hid (fun (W : World) (hb : Below w4.heap.size w4 W) => fenced_any num A c l n id inc W (LA.out W hb) (by omega) hw)
    have C24 := Lib.hid (fun (W : World) (hb : Below w4.heap.size w4 W) => rfenced_any num A2 c2 l n id inc W (LB.out W hb) (by omega))
    have HID := Lib.hid (show (idsL (good (num, l)).2).length ≤ 1000000 by
      rw [ids_len]; have := right_num (good_right (num, l)); omega)
    have C20 := Lib.hid (fun (D : Option Addr) (d : Nat) (E : Option Addr) (e : Nat) (W : World) (h1 : Lies W W.heap.size 1 D (idsL (good (num, l)).2).length (vc (idsL (good (num, l)).2))) (h2 : Lies W W.heap.size 1 E (idsL (good (num, l)).2).length (vc (idsL (good (num, l)).2))) => same_any D d (idsL (good (num, l)).2) E e (idsL (good (num, l)).2) W h1 h2 HID.out HID.out)
    generalize incL (good (num, l)).2 id = z at C18 C19
    generalize fenE (good (num, l)) n id inc = fz at C23 C24
    generalize idsL (good (num, l)).2 = il at C20 C21 C22
    have C20 := Lib.hid (show ∀ (D : Option Addr) (d : Nat) (E : Option Addr) (e : Nat) (W : World) (h1 : Lies W W.heap.size 1 D il.length (vc il)) (h2 : Lies W W.heap.size 1 E il.length (vc il)), Calls Try.prog 20 #[.slice D il.length d, .slice E il.length e] W fun e w' => e = .returned (.bool true) ∧ Below W.heap.size W w' from fun D d E e W h1 h2 => by
      have h := C20.out D d E e W h1 h2
      rw [show decide (il = il) = true from decide_eq_true rfl] at h
      exact h)
    have q1 := HF.out w4.drew (Below.refl _ _).drew
    go_wp2_with fail
    go_region_held3 (fun w' => w'.cell? ⟨w.heap.size, 0, none⟩ = some (.int .i64 num) ∧ w'.cell? ⟨w.heap.size, 1, none⟩ = some (.slice A l.length c) ∧ w'.cell? ⟨w3.heap.size, 0, none⟩ = some (.int .i64 num) ∧ w'.cell? ⟨w3.heap.size, 1, none⟩ = some (.slice A2 l.length c2) ∧ Below w4.heap.size w4 w')
      (exact q1)
      (first | ((go_at_call 18); (with_reducible refine (C18.out _ q1.2.2.2.2).mono ?_); rintro e w9 ⟨rfl, hb9⟩; have q1 := HF.out w9 ((q1.2.2.2.2).trans (hb9.mono (q1.2.2.2.2).size)); clear hb9) | ((go_at_call 19); (with_reducible refine (C19.out _ q1.2.2.2.2).mono ?_); rintro e w9 ⟨rfl, hb9⟩; have q1 := HF.out w9 ((q1.2.2.2.2).trans (hb9.mono (q1.2.2.2.2).size)); clear hb9) | ((go_at_call 21); (with_reducible refine (C21.out _ q1.2.2.2.2).mono ?_); rintro e w9 ⟨D1, d1, rfl, ho9, hb9⟩; have K1 := Lib.hid (Lies.of_own ho9); clear ho9; have q1 := HF.out w9 ((q1.2.2.2.2).trans (hb9.mono (q1.2.2.2.2).size)); clear hb9) | ((go_at_call 22); (with_reducible refine (C22.out _ q1.2.2.2.2).mono ?_); rintro e w9 ⟨D2, d2, rfl, ho9, hb9⟩; have K2 := Lib.hid (Lies.of_own ho9); have K1 := Lib.hid (K1.out.next hb9); clear ho9; have q1 := HF.out w9 ((q1.2.2.2.2).trans (hb9.mono (q1.2.2.2.2).size)); clear hb9) | ((go_at_call 20); (with_reducible refine (C20.out _ _ _ _ _ K1.out K2.out).mono ?_); rintro e w9 ⟨rfl, hb9⟩; have q1 := HF.out w9 ((q1.2.2.2.2).trans (hb9.mono (q1.2.2.2.2).size)); clear hb9) | ((go_at_call 23); (with_reducible refine (C23.out _ q1.2.2.2.2).mono ?_); rintro e w9 ⟨rfl, hb9⟩; have q1 := HF.out w9 ((q1.2.2.2.2).trans (hb9.mono (q1.2.2.2.2).size)); clear hb9) | ((go_at_call 24); (with_reducible refine (C24.out _ q1.2.2.2.2).mono ?_); rintro e w9 ⟨rfl, hb9⟩; have q1 := HF.out w9 ((q1.2.2.2.2).trans (hb9.mono (q1.2.2.2.2).size)); clear hb9) | ((go_at_call 10); (with_reducible refine (knows_any _).mono ?_); rintro e w9 ⟨rfl, hb9⟩; have q1 := HF.out w9 ((q1.2.2.2.2).trans (hb9.mono (q1.2.2.2.2).size)); clear hb9))
    all_goals
      go_wp2_with fail
      go_ret
      exact ⟨rfl, HB.out.trans ((HB4.out.trans (q1.2.2.2.2.mono HB4.out.size)).mono HB.out.size)⟩
end Go.Proofs.Ytemcmhpfpfmgdaa
