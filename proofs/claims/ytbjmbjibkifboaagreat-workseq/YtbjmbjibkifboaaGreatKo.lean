import Derived.Test.YtbjmbjibkifboaaGreatKn
import Derived.BigQuiet
import Derived.Deep.LoopGhost
/-
  The contracts of slices.Equal and the document's SameMsgs at two lists of messages, of At and the document's own, of great and own. No condition but that the messages are not too many.
-/
namespace Go.Proofs.YtbjmbjibkifboaaGreat
open Go.RowKit Go.Sort
set_option linter.unusedVariables false

theorem same_iff (l l' : List Ms) (h : l.length = l'.length) : (∀ i, i < l.length → mAt l i = mAt l' i) ↔ l = l' := by
  constructor
  · intro hk
    apply List.ext_getElem h
    intro i h1 h2
    have := hk i h1
    rwa [mAt_get l i h1, mAt_get l' i h2] at this
  · rintro rfl i _; rfl
def SmRel (l l' : List Ms) (w : World) (i : Value) (W : World) : Prop := ∃ k : Nat, i = .int .i64 k ∧ k ≤ l.length ∧ (∀ i, i < k → mAt l i = mAt l' i) ∧ ∃ q, W = w.drewN q
theorem ret_bool {a b : Bool} (h : a = b) : Ending.returned (.bool a) = .returned (.bool b) := by rw [h]
set_option maxHeartbeats 1000000 in
theorem sameM_any (A : Option Addr) (n c : Nat) (l : List Ms) (A' : Option Addr) (n' c' : Nat) (l' : List Ms) (w : World) (hA : Lies w w.heap.size 2 A n (mc l)) (hA' : Lies w w.heap.size 2 A' n' (mc l')) (hn : n ≤ 1000000) (hn' : n' ≤ 1000000) :
    Calls Tryz.prog 35 #[.slice A n c, .slice A' n' c'] w fun e w' => e = .returned (.bool (decide (l = l'))) ∧ Below w.heap.size w w' := by
  obtain rfl := hA.ms_len
  obtain rfl := hA'.ms_len
  by_cases hl : l.length = l'.length
  · have HS := Lib.hid (same_iff l l' hl)
    rw [← hl] at hA' ⊢
    clear hl hn'
    go_enter Tryz.func35, Tryz.ntmps35
    go_wp2_with fail
    go_loopw [5] (fun i W => SmRel l l' w i W) (fun i W => l.length - (intOf i).toNat)
    case atStart => exact ⟨0, rfl, Nat.zero_le _, fun i h => by omega, 0, rfl⟩
    case round =>
      obtain ⟨k, rfl, hk, hpre, q, rfl⟩ := hrel
      by_cases hlt : k < l.length
      · obtain ⟨ad, rfl, hadb, e0, e1⟩ := hA.ms k hlt
        obtain ⟨ad', rfl, hadb', e0', e1'⟩ := hA'.ms k hlt
        have hkl : (k : Int) < (l.length : Int) := by omega
        have HP := Lib.hid hpre
        clear hpre
        by_cases he : mAt l k = mAt l' k
        · rw [← he] at e0' e1'
          have HE := Lib.hid he
          clear he
          go_wp2_with fail
          go_quiet (fail)
          go_wp2_with fail
          go_roundw
          case rel => exact ⟨k + 1, by go_num, by omega, fun i hi => by
            by_cases h : i = k
            · subst h; exact HE.out
            · exact HP.out i (by omega), q + nq, rfl⟩
          case measure => simp [intOf]; omega
        · have HD := Lib.hid (show decide (l = l') = false by
            apply decide_eq_false
            intro h
            exact he (HS.out.2 h k hlt))
          have hd : ¬ ((mAt l k).1 = (mAt l' k).1 ∧ (mAt l k).2 = (mAt l' k).2) := fun h => he (Prod.ext h.1 h.2)
          clear he
          by_cases h1 : (mAt l k).1 = (mAt l' k).1
          · have h2 : ¬ (mAt l k).2 = (mAt l' k).2 := fun h => hd ⟨h1, h⟩
            rw [← h1] at e0'
            generalize (mAt l k).2 = x at *
            generalize (mAt l' k).2 = y at *
            clear hd
            have h3 : (x == y) = false := by simpa using h2
            go_wp2_with fail
            go_quiet (fail)
            go_wp2_with fail
            go_ret
            exact ⟨ret_bool HD.out.symm, ⟨rfl, rfl, rfl, Nat.le_refl _, fun _ _ => rfl⟩⟩
          · generalize (mAt l k).1 = x at *
            generalize (mAt l' k).1 = y at *
            have h3 : (x == y) = false := by simpa using h1
            clear hd
            go_wp2_with fail
            go_quiet (fail)
            go_wp2_with fail
            go_ret
            exact ⟨ret_bool HD.out.symm, ⟨rfl, rfl, rfl, Nat.le_refl _, fun _ _ => rfl⟩⟩
      · have hk' : k = l.length := by omega
        subst hk'
        have HD := Lib.hid (show decide (l = l') = true from decide_eq_true (HS.out.1 hpre))
        clear hpre
        go_wp2_with fail
        go_ret
        exact ⟨ret_bool HD.out.symm, ⟨rfl, rfl, rfl, Nat.le_refl _, fun _ _ => rfl⟩⟩
  · have HD := Lib.hid (show decide (l = l') = false from decide_eq_false (fun h => hl (by rw [h])))
    have h1 : ((l.length : Int) == (l'.length : Int)) = false := by simp; omega
    clear hl hA hA'
    go_enter Tryz.func35, Tryz.ntmps35
    go_wp2_with fail
    go_ret
    exact ⟨ret_bool HD.out.symm, Below.refl _ _⟩
theorem drop_at (l : List Ms) (k : Nat) (h : k < l.length) : l.drop k = mAt l k :: l.drop (k + 1) := by
  rw [mAt_get l k h]; exact List.drop_eq_getElem_cons h
theorem at_step {l : List Ms} {k : Nat} {v : Int} (h : k < l.length) (hn : ¬ (mAt l k).1 = v) : atV (l.drop k) v = atV (l.drop (k + 1)) v ∧ atB (l.drop k) v = atB (l.drop (k + 1)) v := by
  rw [drop_at l k h]; exact at_miss hn
theorem at_found {l : List Ms} {k : Nat} {v : Int} (h : k < l.length) (hn : (mAt l k).1 = v) : atV (l.drop k) v = (mAt l k).2 ∧ atB (l.drop k) v = true := by
  rw [drop_at l k h]; exact at_hit hn
theorem ret_vb {a b : Int} {c d : Bool} (h : a = b) (g : c = d) : Ending.returned (.tuple #[.int .i64 a, .bool c]) = .returned (.tuple #[.int .i64 b, .bool d]) := by rw [h, g]
def AtRel (l : List Ms) (v : Int) (w : World) (i : Value) (W : World) : Prop := ∃ k : Nat, i = .int .i64 k ∧ k ≤ l.length ∧ (atV l v = atV (l.drop k) v ∧ atB l v = atB (l.drop k) v) ∧ Below w.heap.size w W
set_option maxHeartbeats 1000000 in
theorem at_any (A : Option Addr) (n c : Nat) (l : List Ms) (v : Int) (w : World) (hA : Lies w w.heap.size 2 A n (mc l)) (hn : n ≤ 1000000) :
    Calls Tryz.prog 42 #[.slice A n c, .int .i64 v] w fun e w' => e = .returned (.tuple #[.int .i64 (atV l v), .bool (atB l v)]) ∧ Below w.heap.size w w' := by
  obtain rfl := hA.ms_len
  go_enter Tryz.func42, Tryz.ntmps42
  go_wp2_with fail
  go_loopw [10] (fun i W => AtRel l v w i W) (fun i W => l.length - (intOf i).toNat)
  case atStart => exact ⟨0, rfl, Nat.zero_le _, ⟨rfl, rfl⟩, Below.refl _ _⟩
  case round =>
    obtain ⟨k, rfl, hk, hpre, hb⟩ := hrel
    have HP := Lib.hid hpre
    have HB := Lib.hid (hb.alloc hb.size (.cells #[.int .i64 (mAt l k).1, .int .i64 (mAt l k).2] 55))
    clear hpre
    by_cases hlt : k < l.length
    · obtain ⟨ad, rfl, hadb, e0, e1⟩ := (hA.below hb).ms k hlt
      have hkl : (k : Int) < (l.length : Int) := by omega
      clear hb
      by_cases he : (mAt l k).1 = v
      · have HR := Lib.hid (at_found hlt he)
        subst he
        go_wp2_with fail
        go_ret2
        exact ⟨ret_vb (HR.out.1.symm.trans HP.out.1.symm) (HR.out.2.symm.trans HP.out.2.symm), HB.out⟩
      · have HR := Lib.hid (at_step hlt he)
        have h3 : ((mAt l k).1 == v) = false := by simpa using he
        clear he
        go_wp2_with fail
        go_roundw
        case rel => exact ⟨k + 1, by go_num, by omega, ⟨HP.out.1.trans HR.out.1, HP.out.2.trans HR.out.2⟩, HB.out⟩
        case measure => simp [intOf]; omega
    · have hk' : k = l.length := by omega
      subst hk'
      have HR := Lib.hid (show atV l v = 0 ∧ atB l v = false by have := HP.out; rw [List.drop_length] at this; exact this)
      go_wp2_with fail
      go_ret2
      exact ⟨ret_vb HR.out.1.symm HR.out.2.symm, hb⟩
end Go.Proofs.YtbjmbjibkifboaaGreat

/-
  The contracts of the document's own Sort and Join. No condition but that the messages are not too many.
-/
namespace Go.Proofs.YtbjmbjibkifboaaGreat
open Go.RowKit Go.Sort
set_option linter.unusedVariables false

/-- A row of the call's own, not empty: its cells, what a store leaves. -/
theorem own_some {w : World} {base n : Nat} {A : Option Addr} {c : Nat} {l : List Ms} (h : w.ownsRow base 55 2 (.slice A n c) n (mc l)) (hn : 0 < n) : ∃ g, A = some ⟨g, 0, none⟩ ∧ base ≤ g ∧ g < w.heap.size := by
  rcases h.2 with ⟨hv, h0⟩ | ⟨g, cap, cur, hv, hb, hg, _⟩
  · omega
  · injection hv with e1 e2 e3
    exact ⟨g, e1, hb, (Array.getElem?_eq_some_iff.1 hg).1⟩
section
variable {w : World} {base g n c : Nat} {l : List Ms}
theorem own_cell (h : w.ownsRow base 55 2 (.slice (some ⟨g, 0, none⟩) n c) n (mc l)) (k : Nat) (hk : k < n) :
    w.cell? ⟨g, k * 2, none⟩ = some (.int .i64 (mAt l k).1) ∧ w.cell? ⟨g, k * 2 + 1, none⟩ = some (.int .i64 (mAt l k).2) := by
  have hl := own_len h
  obtain ⟨a0, a1⟩ := mc_at l k (by omega)
  have e : ∀ j, (⟨g, 0, none⟩ : Addr).add j = ⟨g, j, none⟩ := fun j => by unfold Addr.add; split <;> simp_all
  have c0 := h.cells (g := g) rfl _ _ a0
  have c1 := h.cells (g := g) rfl _ _ a1
  rw [e] at c0 c1
  exact ⟨c0, c1⟩
theorem own_store2 (h : w.ownsRow base 55 2 (.slice (some ⟨g, 0, none⟩) n c) n (mc l)) (k : Nat) (hk : k < n) (y : Int) :
    (w.setCell ⟨g, k * 2 + 1, none⟩ (.int .i64 y)).ownsRow base 55 2 (.slice (some ⟨g, 0, none⟩) n c) n (mc (l.set k ((mAt l k).1, y))) := by
  have h2 := (h.stored (k * 2 + 1) (.int .i64 y)).1
  rw [mc_set2 l k (by rw [own_len h]; exact hk)] at h2
  exact h2
end

end Go.Proofs.YtbjmbjibkifboaaGreat


