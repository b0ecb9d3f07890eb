import Derived.Test.YtemcmhpfpfmgdaaVt
import Derived.Deep.RegionHeld3
/-
  The contract of view.next. No condition but that the members rise and are at most a thousand.
-/
namespace Go.Proofs.Ytemcmhpfpfmgdaa
open Go.ChangeShapes Go.WideShapes Go.ChangeAt Go.RowKit Go.Maps
set_option linter.unusedVariables false

theorem allof_perm {l ms : List Mb} (h : riseM 0 l = true) (ha : AllOf (incL l) ms) : ms.Perm l := by
  have n1 : ms.Nodup := by
    have := ha.1
    exact (List.pairwise_map.1 this).imp fun hne e => hne (by rw [e])
  have n2 : l.Nodup := (riseM_pairs h).imp fun hlt e => by subst e; omega
  refine (List.perm_ext_iff_of_nodup n1 n2).2 fun m => ?_
  rw [ha.2, mem_inc h]
theorem sorted_is {l ms ms0 : List Mb} (h : riseM 0 l = true) (ha : AllOf (incL l) ms0) (hp : ms.Perm ms0) (hs : ms.Pairwise fun a b => a.1 ≤ b.1) : ms = l := by
  have hpl := hp.trans (allof_perm h ha)
  refine hpl.eq_of_pairwise (le := fun a b => a.1 ≤ b.1) (fun a b ha hb h1 h2 => ?_) hs ((riseM_pairs h).imp fun hlt => Int.le_of_lt hlt)
  have e1 := incL_mem h a (hpl.mem_iff.1 ha)
  have e2 := incL_mem h b hb
  have e : a.1 = b.1 := by omega
  rw [e] at e1
  exact Prod.ext e (e1.symm.trans e2)
theorem values_b (b nn : Nat) (D : DataW Unit) (f : Int → Int) (hD : MapIs D f) (W : World) (hown : W.ownsMap Try.prog 3 rdM b nn D) :
    Calls Try.prog 36 #[.map (some b)] W fun e w' => ∃ lb, e = .returned (.func (.func 40) #[] lb) ∧ SeqGives Fence.wide 3 Try.prog 40 lb mv (AllOf f) (Maps.size D) w' ∧ Below W.heap.size W w' := by
  refine (callsIn_wide (n := 5)).1 ((values_in 5 (some b) W).mono ?_)
  rintro e w' ⟨rfl, rfl⟩
  exact ⟨_, rfl, values_gives 3 (by omega) W.heap.size b nn D f hD _ (by simp) (by simp [go_sem]) (hown.alloc _), below_alloc W _⟩
theorem unfrozen {W : World} {g : Nat} {vs : Array Value} {t : TypeId} (h : W.heap[g]? = some (.cells vs t (0, 0))) (o : Nat) : W.frozen? ⟨g, o, none⟩ = false := by simp [World.frozen?, h]
/-- A view of the call's own is answered. -/
def VPost (v : V) (t : TypeId) (w : World) (r : Ending) (w' : World) : Prop :=
  ∃ A c, r = .returned (.agg #[.int .i64 v.1, .slice A v.2.length c]) ∧ w'.ownsRow w.heap.size t 2 (.slice A v.2.length c) v.2.length (mc v.2) ∧ Below w.heap.size w w'
theorem own_low {W : World} {base base' : Nat} {e : TypeId} {s : Nat} {v : Value} {k : Nat} {xs : List Value} (h : W.ownsRow base e s v k xs) (hb : base' ≤ base) : W.ownsRow base' e s v k xs := ownsRow_base_a h hb
theorem own_setLow {W : World} {base : Nat} {e : TypeId} {s : Nat} {v : Value} {k : Nat} {xs : List Value} (h : W.ownsRow base e s v k xs) {b o : Nat} (hb : b < base) {u : Value} : (W.setCell ⟨b, o, none⟩ u).ownsRow base e s v k xs := by
  refine h.kept (row := some b) ⟨rfl, rfl, rfl, (KeepsWalks.setCell W _ u).size, fun j _ hj => Below.heap_setCell _ _ _ j (fun e => hj (by rw [e]))⟩ ?_
  cases hv : v.ownBlock with
  | none => exact .inl rfl
  | some g =>
    have := (h.lt g hv).1
    exact .inr (fun e => by injection e with e; omega)
theorem eg40 : ∀ args w, (callFunc 40 args).run Try.prog w = .ok (.enter 40 args) w := enters_of Try.func40 (by kernel_rfl) rfl
set_option maxHeartbeats 4000000 in
set_option maxRecDepth 20000 in
theorem next_any (num : Int) (A : Option Addr) (n c : Nat) (b nn : Nat) (D : DataW Unit) (l : List Mb) (w : World) (hnum : 0 ≤ num ∧ num ≤ 1099511627776) (hown : w.ownsMap Try.prog 3 rdM b nn D) (hnn : nn ≤ 1000) (hD : MapIs D (incL l)) (hl : riseM 0 l = true) (hn : l.length ≤ 1000) :
    Calls Try.prog 32 #[.agg #[.int .i64 num, .slice A n c], .map (some b)] w (VPost (num + 1, l) 59 w) := by
  have HL := Lib.hid hl
  have HBD := Lib.hid hown.lt
  have HSD := Lib.hid (Nat.le_trans hown.size_le hnn)
  have hs2 : ((w.alloc (.cells #[.int .i64 num, .slice A n c] 24)).alloc (.cells #[.int .i64 0, .slice none 0 0] 24)).heap.size = w.heap.size + 2 := by simp
  have hb2 : Below w.heap.size w ((w.alloc (.cells #[.int .i64 num, .slice A n c] 24)).alloc (.cells #[.int .i64 0, .slice none 0 0] 24)) := ((Below.refl _ w).alloc (Nat.le_refl _) _).alloc (by simp) _
  have d0 : ((w.alloc (.cells #[.int .i64 num, .slice A n c] 24)).alloc (.cells #[.int .i64 0, .slice none 0 0] 24)).cell? ⟨w.heap.size, 0, none⟩ = some (.int .i64 num) := by simp [go_sem]
  have z0 : ((w.alloc (.cells #[.int .i64 num, .slice A n c] 24)).alloc (.cells #[.int .i64 0, .slice none 0 0] 24)).heap[w.heap.size + 1]? = some (.cells #[.int .i64 0, .slice none 0 0] 24 (0, 0)) := by
    have := World.alloc_heap_new (w.alloc (.cells #[.int .i64 num, .slice A n c] 24)) (.cells #[.int .i64 0, .slice none 0 0] 24)
    rwa [World.size_alloc] at this
  have ho2 : ((w.alloc (.cells #[.int .i64 num, .slice A n c] 24)).alloc (.cells #[.int .i64 0, .slice none 0 0] 24)).ownsMap Try.prog 3 rdM b nn D := (hown.alloc _).alloc _
  have hwr : IntKind.i64.wrap (num + 1) = num + 1 := by simp [IntKind.wrap, IntKind.bits, IntKind.signed]; omega
  clear hl hown
  go_enter Try.func32, Try.ntmps32
  go_upto_region 1 with fail
  generalize (w.alloc (.cells #[.int .i64 num, .slice A n c] 24)).alloc (.cells #[.int .i64 0, .slice none 0 0] 24) = w2 at hs2 hb2 d0 z0 ho2 ⊢
  have HS2 := Lib.hid hs2
  have HB2 := Lib.hid hb2
  have HF := Lib.hid (show ∀ W : World, Below w2.heap.size w2 W → W.cell? ⟨w.heap.size, 0, none⟩ = some (.int .i64 num) from fun W hb => (hb.cell (p := ⟨w.heap.size, 0, none⟩) (by show w.heap.size < _; omega)).trans d0)
  have HZ := Lib.hid (show ∀ W : World, Below w2.heap.size w2 W → W.heap[w.heap.size + 1]? = some (.cells #[.int .i64 0, .slice none 0 0] 24 (0, 0)) from fun W hb => (hb.block (w.heap.size + 1) (by omega)).trans z0)
  have HV := Lib.hid (show ∀ W : World, Below w2.heap.size w2 W → Calls Try.prog 36 #[.map (some b)] W fun e w' => ∃ lb, e = .returned (.func (.func 40) #[] lb) ∧ SeqGives Fence.wide 3 Try.prog 40 lb mv (AllOf (incL l)) (Maps.size D) w' ∧ Below W.heap.size W w' from fun W hb =>
    values_b b nn D (incL l) hD W (ho2.kept (row := none) ⟨hb.os, hb.tape, hb.output, hb.size, fun k hk _ => hb.block k hk⟩ (by simp)))
  have HQ := Lib.hid (show ∀ (W : World) (u0 u1 : Value), W.cell? ⟨w.heap.size, 0, none⟩ = some (.int .i64 num) → ((W.setCell ⟨w.heap.size + 1, 0, none⟩ u0).setCell ⟨w.heap.size + 1, 1, none⟩ u1).cell? ⟨w.heap.size, 0, none⟩ = some (.int .i64 num) from fun W u0 u1 h => cell_set (by simp) (cell_set (by simp) h))
  have HSO := Lib.hid (show ∀ (lb : Array Value) (W : World), SeqGives Fence.wide 3 Try.prog 40 lb mv (AllOf (incL l)) (Maps.size D) W → Calls Try.prog 35 #[.func (.func 40) #[] lb, .func (.func 33) #[] #[]] W fun e w' => ∃ A c, e = .returned (.slice A l.length c) ∧ w'.ownsRow W.heap.size 59 2 (.slice A l.length c) l.length (mc l) ∧ Below W.heap.size W w' from fun lb W hseq =>
    (sortedf_any 40 lb eg40 (AllOf (incL l)) (Maps.size D) HSD.out W hseq (fun ms h => by rw [(allof_perm HL.out h).length_eq]; exact hn)).mono fun e w' => by
      rintro ⟨A, c, ms, rfl, ⟨ms0, h1, h2⟩, h3, h4, h5⟩
      obtain rfl := sorted_is HL.out h1 h2 h3
      exact ⟨A, c, rfl, h4, h5⟩)
  have q0 := HF.out w2.drew (Below.refl _ _).drew
  have B0 := Lib.hid (show Below w2.heap.size w2 w2.drew from (Below.refl _ _).drew)
  clear d0 z0 ho2 hb2 hs2
  go_wp2_with fail
  go_region_held3 (fun w' => w'.cell? ⟨w.heap.size, 0, none⟩ = some (.int .i64 num))
    (first | with_reducible exact q2 | with_reducible exact q1 | with_reducible exact q0 | with_reducible exact HQ.out _ _ _ q2)
    (first | ((go_at_call 36); (with_reducible refine (HV.out _ B0.out).mono ?_); rintro e w5 ⟨lb, rfl, hs5, hb5⟩; have B1 := Lib.hid (B0.out.trans (hb5.mono B0.out.size)); have q1 := HF.out w5 B1.out; have HS5 := Lib.hid hs5; clear hs5 hb5 q0) | ((go_at_call 35); (with_reducible refine (HSO.out _ _ HS5.out).mono ?_); rintro e w6 ⟨A6, c6, rfl, ho6, hb6⟩; have B2 := Lib.hid (B1.out.trans (hb6.mono B1.out.size)); have q2 := HF.out w6 B2.out; have HO6 := Lib.hid ho6; have z6 := HZ.out w6 B2.out; have r0 := cell_of_row w6 _ 0 _ 24 (0, 0) z6; have f0 := unfrozen z6 0; have r1 := cell_of_row w6 _ 1 _ 24 (0, 0) z6; have f1 := unfrozen z6 1; clear z6 ho6 hb6 q1))
  all_goals
    go_wp2_with fail
    refine bodyPost_ret (v := .agg #[.int .i64 (num + 1), .slice A6 l.length c6]) (by simp [results, Try.results32, go_sem, r0, r1]) rfl ?_
    have hz6 : w.heap.size + 1 < w5.heap.size := by have h1 := B1.out.size; have h2 := HS2.out; omega
    have hz5 : w.heap.size ≤ w5.heap.size := by omega
    exact ⟨A6, c6, rfl, own_low (own_setLow (own_setLow HO6.out hz6) hz6) hz5, (((HB2.out.trans (B2.out.mono HB2.out.size)).setCell (p := ⟨w.heap.size + 1, 0, none⟩) (Nat.le_succ _) _).setCell (p := ⟨w.heap.size + 1, 1, none⟩) (Nat.le_succ _) _)⟩
end Go.Proofs.Ytemcmhpfpfmgdaa
