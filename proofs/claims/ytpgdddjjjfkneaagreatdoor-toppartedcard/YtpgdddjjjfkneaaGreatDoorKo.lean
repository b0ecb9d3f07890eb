import Derived.Test.YtpgdddjjjfkneaaGreatDoorKn
import Derived.BigQuiet
import Derived.Deep.LoopGhost
/-
  The contracts of slices.Equal and the document's SameMsgs at two lists of messages, of At and the document's own, of great and own. No condition but that the messages are not too many.
-/
namespace Go.Proofs.YtpgdddjjjfkneaaGreatDoor
open Go.RowKit Go.Sort
set_option linter.unusedVariables false

theorem ret_bool {a b : Bool} (h : a = b) : Ending.returned (.bool a) = .returned (.bool b) := by rw [h]
theorem drop_at (l : List Ms) (k : Nat) (h : k < l.length) : l.drop k = mAt l k :: l.drop (k + 1) := by
  rw [mAt_get l k h]; exact List.drop_eq_getElem_cons h
theorem at_step {l : List Ms} {k : Nat} {v : Int} (h : k < l.length) (hn : ¬ (mAt l k).1 = v) : atV (l.drop k) v = atV (l.drop (k + 1)) v ∧ atB (l.drop k) v = atB (l.drop (k + 1)) v := by
  rw [drop_at l k h]; exact at_miss hn
theorem at_found {l : List Ms} {k : Nat} {v : Int} (h : k < l.length) (hn : (mAt l k).1 = v) : atV (l.drop k) v = (mAt l k).2 ∧ atB (l.drop k) v = true := by
  rw [drop_at l k h]; exact at_hit hn
theorem ret_vb {a b : Int} {c d : Bool} (h : a = b) (g : c = d) : Ending.returned (.tuple #[.int .i64 a, .bool c]) = .returned (.tuple #[.int .i64 b, .bool d]) := by rw [h, g]
def AtRel (l : List Ms) (v : Int) (w : World) (i : Value) (W : World) : Prop := ∃ k : Nat, i = .int .i64 k ∧ k ≤ l.length ∧ (atV l v = atV (l.drop k) v ∧ atB l v = atB (l.drop k) v) ∧ Below w.heap.size w W
set_option maxHeartbeats 1000000 in
theorem at_any (A : Option Addr) (n c : Nat) (l : List Ms) (v : Int) (w : World) (hA : Lies w w.heap.size 2 A n (mc l)) (hn : n ≤ 1000000) :
    Calls Tryz.prog 82 #[.slice A n c, .int .i64 v] w fun e w' => e = .returned (.tuple #[.int .i64 (atV l v), .bool (atB l v)]) ∧ Below w.heap.size w w' := by
  obtain rfl := hA.ms_len
  go_enter Tryz.func82, Tryz.ntmps82
  go_wp2_with fail
  go_loopw [10] (fun i W => AtRel l v w i W) (fun i W => l.length - (intOf i).toNat)
  case atStart => exact ⟨0, rfl, Nat.zero_le _, ⟨rfl, rfl⟩, Below.refl _ _⟩
  case round =>
    obtain ⟨k, rfl, hk, hpre, hb⟩ := hrel
    have HP := Lib.hid hpre
    have HB := Lib.hid (hb.alloc hb.size (.cells #[.int .i64 (mAt l k).1, .int .i64 (mAt l k).2] 118))
    clear hpre
    by_cases hlt : k < l.length
    · obtain ⟨ad, rfl, hadb, e0, e1⟩ := (hA.below hb).ms k hlt
      have hkl : (k : Int) < (l.length : Int) := by omega
      clear hb
      by_cases he : (mAt l k).1 = v
      · have HR := Lib.hid (at_found hlt he)
        subst he
        go_wp2_with fail
        go_ret2
        exact ⟨ret_vb (HR.out.1.symm.trans HP.out.1.symm) (HR.out.2.symm.trans HP.out.2.symm), HB.out⟩
      · have HR := Lib.hid (at_step hlt he)
        have h3 : ((mAt l k).1 == v) = false := by simpa using he
        clear he
        go_wp2_with fail
        go_roundw
        case rel => exact ⟨k + 1, by go_num, by omega, ⟨HP.out.1.trans HR.out.1, HP.out.2.trans HR.out.2⟩, HB.out⟩
        case measure => simp [intOf]; omega
    · have hk' : k = l.length := by omega
      subst hk'
      have HR := Lib.hid (show atV l v = 0 ∧ atB l v = false by have := HP.out; rw [List.drop_length] at this; exact this)
      go_wp2_with fail
      go_ret2
      exact ⟨ret_vb HR.out.1.symm HR.out.2.symm, hb⟩
end Go.Proofs.YtpgdddjjjfkneaaGreatDoor

/-
  The contracts of the document's own Sort and Join. No condition but that the messages are not too many.
-/
namespace Go.Proofs.YtpgdddjjjfkneaaGreatDoor
open Go.RowKit Go.Sort
set_option linter.unusedVariables false

/-- A row of the call's own, not empty: its cells, what a store leaves. -/
theorem own_some {w : World} {base n : Nat} {A : Option Addr} {c : Nat} {l : List Ms} (h : w.ownsRow base 118 2 (.slice A n c) n (mc l)) (hn : 0 < n) : ∃ g, A = some ⟨g, 0, none⟩ ∧ base ≤ g ∧ g < w.heap.size := by
  rcases h.2 with ⟨hv, h0⟩ | ⟨g, cap, cur, hv, hb, hg, _⟩
  · omega
  · injection hv with e1 e2 e3
    exact ⟨g, e1, hb, (Array.getElem?_eq_some_iff.1 hg).1⟩
section
variable {w : World} {base g n c : Nat} {l : List Ms}
theorem own_cell (h : w.ownsRow base 118 2 (.slice (some ⟨g, 0, none⟩) n c) n (mc l)) (k : Nat) (hk : k < n) :
    w.cell? ⟨g, k * 2, none⟩ = some (.int .i64 (mAt l k).1) ∧ w.cell? ⟨g, k * 2 + 1, none⟩ = some (.int .i64 (mAt l k).2) := by
  have hl := own_len h
  obtain ⟨a0, a1⟩ := mc_at l k (by omega)
  have e : ∀ j, (⟨g, 0, none⟩ : Addr).add j = ⟨g, j, none⟩ := fun j => by unfold Addr.add; split <;> simp_all
  have c0 := h.cells (g := g) rfl _ _ a0
  have c1 := h.cells (g := g) rfl _ _ a1
  rw [e] at c0 c1
  exact ⟨c0, c1⟩
theorem own_store2 (h : w.ownsRow base 118 2 (.slice (some ⟨g, 0, none⟩) n c) n (mc l)) (k : Nat) (hk : k < n) (y : Int) :
    (w.setCell ⟨g, k * 2 + 1, none⟩ (.int .i64 y)).ownsRow base 118 2 (.slice (some ⟨g, 0, none⟩) n c) n (mc (l.set k ((mAt l k).1, y))) := by
  have h2 := (h.stored (k * 2 + 1) (.int .i64 y)).1
  rw [mc_set2 l k (by rw [own_len h]; exact hk)] at h2
  exact h2
end

end Go.Proofs.YtpgdddjjjfkneaaGreatDoor


