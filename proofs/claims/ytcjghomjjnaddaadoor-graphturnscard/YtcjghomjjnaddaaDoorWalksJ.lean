/-
  The contract of slices.BinarySearchFunc over rising edges. Conditions: the edges rise; at most 80.
-/
import Derived.Test.YtcjghomjjnaddaaDoorWalksI
namespace Go.Proofs.YtcjghomjjnaddaaDoor
open Go.RowKit
set_option linter.unusedVariables false

theorem ltE_trans {a b c : Ed} (h : ltE a b) (g : ltE b c) : ltE a c := by unfold ltE at *; omega

/-- The edges rise. -/
def Rises (es : List Ed) : Prop := ∀ a b, a < b → b < es.length → ltE (eAt es a) (eAt es b)

def Place (es : List Ed) (e : Ed) (i j : Nat) : Prop := i ≤ j ∧ j ≤ es.length ∧ (∀ k, k < i → ltE (eAt es k) e) ∧ (∀ k, j ≤ k → k < es.length → ¬ ltE (eAt es k) e)

theorem Place.lower {es : List Ed} {e : Ed} {i j h : Nat} (hr : Rises es) (p : Place es e i j) (h1 : i ≤ h) (h2 : h < j) (hc : ltE (eAt es h) e) : Place es e (h + 1) j := by
  obtain ⟨p1, p2, p3, p4⟩ := p
  refine ⟨by omega, p2, fun k hk => ?_, p4⟩
  by_cases hkh : k = h
  · subst hkh; exact hc
  · exact ltE_trans (hr k h (by omega) (by omega)) hc
theorem Place.upper {es : List Ed} {e : Ed} {i j h : Nat} (hr : Rises es) (p : Place es e i j) (h1 : i ≤ h) (h2 : h < j) (hc : ¬ ltE (eAt es h) e) : Place es e i h := by
  obtain ⟨p1, p2, p3, p4⟩ := p
  refine ⟨h1, by omega, p3, fun k hk hkn => ?_⟩
  by_cases hkh : k = h
  · subst hkh; exact hc
  · intro hx
    exact hc (ltE_trans (hr h k (by omega) hkn) hx)

def BsRel (es : List Ed) (e : Ed) (w : World) (vi vj : Value) (W : World) : Prop := ∃ i j : Nat, vi = .int .i64 i ∧ vj = .int .i64 j ∧ Place es e i j ∧ Below w.heap.size w W

def BsPost (es : List Ed) (e : Ed) (w : World) (r : Ending) (w' : World) : Prop :=
  Below w.heap.size w w' ∧ ∃ p : Nat, Place es e p p ∧ ((r = .returned (.tuple #[.int .i64 p, .bool true]) ∧ p < es.length ∧ keyE (eAt es p) e) ∨ (r = .returned (.tuple #[.int .i64 p, .bool false]) ∧ (p < es.length → ¬ keyE (eAt es p) e)))

attribute [local irreducible] wpStill in
set_option maxHeartbeats 1000000 in
set_option maxRecDepth 100000 in
theorem search_any (A : Option Addr) (n c : Nat) (es : List Ed) (e : Ed) (w : World) (hA : Lies w w.heap.size 3 A n (ec es)) (hnc : n ≤ c) (hn : n ≤ 80) (hr : Rises es) :
    Calls Tryd.prog 38 #[.slice A n c, .agg #[.int .i64 e.1, .int .i64 e.2.1, .int .i64 e.2.2], .func (.func 21) #[] #[]] w (BsPost es e w) := by
  obtain rfl := hA.ed_len
  go_enter Tryd.func38, Tryd.ntmps38
  go_wp2_with fail
  go_loopw [9, 10] (fun i j W => BsRel es e w i j W ∧ Below (w.heap.size + 1) (w.alloc (.cells #[.int .i64 e.1, .int .i64 e.2.1, .int .i64 e.2.2] 42)) W) (fun i j W => (intOf j).toNat - (intOf i).toNat)
  case atStart => exact ⟨⟨0, es.length, rfl, rfl, ⟨Nat.zero_le _, Nat.le_refl _, fun k hk => absurd hk (by omega), fun k hk hk2 => absurd hk (by omega)⟩, below_alloc _ _⟩, Below.refl _ _⟩
  case round =>
    obtain ⟨⟨i, j, rfl, rfl, hp, hb⟩, hbb⟩ := hrel
    obtain ⟨h1, h2, -, -⟩ := id hp
    have HP := Lib.hid hp
    have HRI := Lib.hid hr
    clear hp hr
    have c0 : wr.cell? ⟨w.heap.size, 0, none⟩ = some (.int .i64 e.1) := (hbb.cell (p := ⟨w.heap.size, 0, none⟩) (by simp)).trans (by simp [go_sem])
    have c1 : wr.cell? ⟨w.heap.size, 1, none⟩ = some (.int .i64 e.2.1) := (hbb.cell (p := ⟨w.heap.size, 1, none⟩) (by simp)).trans (by simp [go_sem])
    have c2 : wr.cell? ⟨w.heap.size, 2, none⟩ = some (.int .i64 e.2.2) := (hbb.cell (p := ⟨w.heap.size, 2, none⟩) (by simp)).trans (by simp [go_sem])
    have hz : w.heap.size + 1 ≤ wr.heap.size := by have := hbb.size; simpa using this
    have hAr := hA.below hb
    by_cases hlt : i < j
    · obtain ⟨m, hm⟩ : ∃ m : Nat, m = (i + j) / 2 := ⟨_, rfl⟩
      have hm1 : ((i : Int) + (j : Int)) / 2 = (m : Int) := by omega
      have hm2 : i ≤ m := by omega
      have hm3 : m < j := by omega
      have hm4 : m < es.length := by omega
      obtain ⟨ad, rfl, hadb, e0, e1, e2⟩ := hAr.ed m hm4
      have hm5 : (m : Int) < (es.length : Int) := by omega
      clear hm
      go_wp2_with fail
      refine still_tail 6 (by kernel_rfl) (by kernel_rfl) ?_
      simp only [List.take_succ_cons, List.take_zero, List.drop_succ_cons, List.drop_zero]
      iterate 6 still_step
      refine wpStill_nil ?_
      go_wp2_with fail
      refine (compare_any (eAt es m) e _).mono ?_
      rintro r w1 ⟨rfl, hb2⟩
      clear hm1
      have hb3 : Below w.heap.size w w1 := hb.drew.trans (hb2.mono (by have := hb.size; simpa using this))
      have hb4 : Below (w.heap.size + 1) (w.alloc (.cells #[.int .i64 e.1, .int .i64 e.2.1, .int .i64 e.2.2] 42)) w1 := hbb.drew.trans (hb2.mono hz)
      by_cases q : cmpE (eAt es m) e < 0
      · have HQ := Lib.hid (cmpE_neg.1 q)
        go_wp2_with fail
        go_roundw
        case rel => exact ⟨⟨m + 1, j, by go_num, rfl, HP.out.lower HRI.out hm2 hm3 HQ.out, hb3⟩, hb4⟩
        case measure => simp [intOf]; omega
      · have HQ := Lib.hid (fun h => q (cmpE_neg.2 h))
        go_wp2_with fail
        go_roundw
        case rel => exact ⟨⟨i, m, rfl, rfl, HP.out.upper HRI.out hm2 hm3 HQ.out, hb3⟩, hb4⟩
        case measure => simp [intOf]; omega
    · obtain rfl : i = j := by omega
      by_cases hin : i < es.length
      · obtain ⟨ad, rfl, hadb, e0, e1, e2⟩ := hAr.ed i hin
        have hin1 : (i : Int) < (es.length : Int) := by omega
        go_wp2_with fail
        have ab : (ad.add (i * 3)).block < wr.heap.size := by rw [block_add]; omega
        have wb : w.heap.size < wr.heap.size := by omega
        go_region_held3 (fun w' => w'.cell? (ad.add (i * 3)) = some (.int .i64 (eAt es i).1) ∧ w'.cell? ⟨(ad.add (i * 3)).block, (ad.add (i * 3)).off + 1, none⟩ = some (.int .i64 (eAt es i).2.1) ∧ w'.cell? ⟨(ad.add (i * 3)).block, (ad.add (i * 3)).off + 2, none⟩ = some (.int .i64 (eAt es i).2.2) ∧ w'.cell? ⟨w.heap.size, 0, none⟩ = some (.int .i64 e.1) ∧ w'.cell? ⟨w.heap.size, 1, none⟩ = some (.int .i64 e.2.1) ∧ w'.cell? ⟨w.heap.size, 2, none⟩ = some (.int .i64 e.2.2))
          (first | exact ⟨e0, e1, e2, c0, c1, c2⟩ | exact ⟨(hb2.cell ab).trans e0, (hb2.cell (p := ⟨(ad.add (i * 3)).block, (ad.add (i * 3)).off + 1, none⟩) ab).trans e1, (hb2.cell (p := ⟨(ad.add (i * 3)).block, (ad.add (i * 3)).off + 2, none⟩) ab).trans e2, (hb2.cell (p := ⟨w.heap.size, 0, none⟩) wb).trans c0, (hb2.cell (p := ⟨w.heap.size, 1, none⟩) wb).trans c1, (hb2.cell (p := ⟨w.heap.size, 2, none⟩) wb).trans c2⟩)
          (first | ((go_at_call 21); (with_reducible refine (compare_any (eAt es i) e _).mono ?_); rintro r w1 ⟨rfl, hb2⟩))
        have hb3 : Below w.heap.size w w1 := hb.drew.trans (hb2.mono (by have := hb.size; simpa using this))
        by_cases q : cmpE (eAt es i) e = 0
        · have HQ := Lib.hid (cmpE_zero.1 q)
          have q1 : (cmpE (eAt es i) e == 0) = true := by simpa using q
          clear q
          go_wp2_with fail
          go_ret2
          exact ⟨hb3, i, HP.out, .inl ⟨by show Ending.returned (Value.tuple #[.int .i64 i, .bool (cmpE (eAt es i) e == 0)]) = _; rw [q1], hin, HQ.out⟩⟩
        · have HQ := Lib.hid (show ¬ keyE (eAt es i) e from fun h => q (cmpE_zero.2 h))
          have q1 : (cmpE (eAt es i) e == 0) = false := by simpa using q
          clear q
          go_wp2_with fail
          go_ret2
          exact ⟨hb3, i, HP.out, .inr ⟨by show Ending.returned (Value.tuple #[.int .i64 i, .bool (cmpE (eAt es i) e == 0)]) = _; rw [q1], fun _ => HQ.out⟩⟩
      · have hin1 : ¬ (i : Int) < (es.length : Int) := by omega
        have hd : decide ((i : Int) < (es.length : Int)) = false := by simpa using hin
        have hd2 : decide (i < es.length) = false := by simpa using hin
        go_wp2_with fail
        go_quiet (fail)
        go_wp2_with fail
        go_ret2
        exact ⟨below_to_drewN hb _, i, HP.out, .inr ⟨rfl, fun h => absurd h hin⟩⟩
end Go.Proofs.YtcjghomjjnaddaaDoor
