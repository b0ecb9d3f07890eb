import Derived.Test.YtcaccjfnibjbpaaKn
import Derived.BigQuiet
import Derived.Deep.LoopGhost
/-
  The contracts of slices.Equal and the document's SameMsgs at two lists of messages, of At and the document's own, of great and own. No condition but that the messages are not too many.
-/
namespace Go.Proofs.Ytcaccjfnibjbpaa
open Go.RowKit Go.Sort
set_option linter.unusedVariables false

theorem same_iff (l l' : List Ms) (h : l.length = l'.length) : (∀ i, i < l.length → mAt l i = mAt l' i) ↔ l = l' := by
  constructor
  · intro hk
    apply List.ext_getElem h
    intro i h1 h2
    have := hk i h1
    rwa [mAt_get l i h1, mAt_get l' i h2] at this
  · rintro rfl i _; rfl
def SmRel (l l' : List Ms) (w : World) (i : Value) (W : World) : Prop := ∃ k : Nat, i = .int .i64 k ∧ k ≤ l.length ∧ (∀ i, i < k → mAt l i = mAt l' i) ∧ ∃ q, W = w.drewN q
theorem ret_bool {a b : Bool} (h : a = b) : Ending.returned (.bool a) = .returned (.bool b) := by rw [h]
set_option maxHeartbeats 1000000 in
theorem sameM_any (A : Option Addr) (n c : Nat) (l : List Ms) (A' : Option Addr) (n' c' : Nat) (l' : List Ms) (w : World) (hA : Lies w w.heap.size 2 A n (mc l)) (hA' : Lies w w.heap.size 2 A' n' (mc l')) (hn : n ≤ 1000000) (hn' : n' ≤ 1000000) :
    Calls Try.prog 37 #[.slice A n c, .slice A' n' c'] w fun e w' => e = .returned (.bool (decide (l = l'))) ∧ Below w.heap.size w w' := by
  obtain rfl := hA.ms_len
  obtain rfl := hA'.ms_len
  by_cases hl : l.length = l'.length
  · have HS := Lib.hid (same_iff l l' hl)
    rw [← hl] at hA' ⊢
    clear hl hn'
    go_enter Try.func37, Try.ntmps37
    go_wp2_with fail
    go_loopw [5] (fun i W => SmRel l l' w i W) (fun i W => l.length - (intOf i).toNat)
    case atStart => exact ⟨0, rfl, Nat.zero_le _, fun i h => by omega, 0, rfl⟩
    case round =>
      obtain ⟨k, rfl, hk, hpre, q, rfl⟩ := hrel
      by_cases hlt : k < l.length
      · obtain ⟨ad, rfl, hadb, e0, e1⟩ := hA.ms k hlt
        obtain ⟨ad', rfl, hadb', e0', e1'⟩ := hA'.ms k hlt
        have hkl : (k : Int) < (l.length : Int) := by omega
        have HP := Lib.hid hpre
        clear hpre
        by_cases he : mAt l k = mAt l' k
        · rw [← he] at e0' e1'
          have HE := Lib.hid he
          clear he
          go_wp2_with fail
          go_quiet (fail)
          go_wp2_with fail
          go_roundw
          case rel => exact ⟨k + 1, by go_num, by omega, fun i hi => by
            by_cases h : i = k
            · subst h; exact HE.out
            · exact HP.out i (by omega), q + nq, rfl⟩
          case measure => simp [intOf]; omega
        · have HD := Lib.hid (show decide (l = l') = false by
            apply decide_eq_false
            intro h
            exact he (HS.out.2 h k hlt))
          have hd : ¬ ((mAt l k).1 = (mAt l' k).1 ∧ (mAt l k).2 = (mAt l' k).2) := fun h => he (Prod.ext h.1 h.2)
          clear he
          by_cases h1 : (mAt l k).1 = (mAt l' k).1
          · have h2 : ¬ (mAt l k).2 = (mAt l' k).2 := fun h => hd ⟨h1, h⟩
            rw [← h1] at e0'
            generalize (mAt l k).2 = x at *
            generalize (mAt l' k).2 = y at *
            clear hd
            have h3 : (x == y) = false := by simpa using h2
            go_wp2_with fail
            go_quiet (fail)
            go_wp2_with fail
            go_ret
            exact ⟨ret_bool HD.out.symm, ⟨rfl, rfl, rfl, Nat.le_refl _, fun _ _ => rfl⟩⟩
          · generalize (mAt l k).1 = x at *
            generalize (mAt l' k).1 = y at *
            have h3 : (x == y) = false := by simpa using h1
            clear hd
            go_wp2_with fail
            go_quiet (fail)
            go_wp2_with fail
            go_ret
            exact ⟨ret_bool HD.out.symm, ⟨rfl, rfl, rfl, Nat.le_refl _, fun _ _ => rfl⟩⟩
      · have hk' : k = l.length := by omega
        subst hk'
        have HD := Lib.hid (show decide (l = l') = true from decide_eq_true (HS.out.1 hpre))
        clear hpre
        go_wp2_with fail
        go_ret
        exact ⟨ret_bool HD.out.symm, ⟨rfl, rfl, rfl, Nat.le_refl _, fun _ _ => rfl⟩⟩
  · have HD := Lib.hid (show decide (l = l') = false from decide_eq_false (fun h => hl (by rw [h])))
    have h1 : ((l.length : Int) == (l'.length : Int)) = false := by simp; omega
    clear hl hA hA'
    go_enter Try.func37, Try.ntmps37
    go_wp2_with fail
    go_ret
    exact ⟨ret_bool HD.out.symm, Below.refl _ _⟩
theorem drop_at (l : List Ms) (k : Nat) (h : k < l.length) : l.drop k = mAt l k :: l.drop (k + 1) := by
  rw [mAt_get l k h]; exact List.drop_eq_getElem_cons h
theorem at_step {l : List Ms} {k : Nat} {v : Int} (h : k < l.length) (hn : ¬ (mAt l k).1 = v) : atV (l.drop k) v = atV (l.drop (k + 1)) v ∧ atB (l.drop k) v = atB (l.drop (k + 1)) v := by
  rw [drop_at l k h]; exact at_miss hn
theorem at_found {l : List Ms} {k : Nat} {v : Int} (h : k < l.length) (hn : (mAt l k).1 = v) : atV (l.drop k) v = (mAt l k).2 ∧ atB (l.drop k) v = true := by
  rw [drop_at l k h]; exact at_hit hn
theorem ret_vb {a b : Int} {c d : Bool} (h : a = b) (g : c = d) : Ending.returned (.tuple #[.int .i64 a, .bool c]) = .returned (.tuple #[.int .i64 b, .bool d]) := by rw [h, g]
def AtRel (l : List Ms) (v : Int) (w : World) (i : Value) (W : World) : Prop := ∃ k : Nat, i = .int .i64 k ∧ k ≤ l.length ∧ (atV l v = atV (l.drop k) v ∧ atB l v = atB (l.drop k) v) ∧ Below w.heap.size w W
set_option maxHeartbeats 1000000 in
theorem at_any (A : Option Addr) (n c : Nat) (l : List Ms) (v : Int) (w : World) (hA : Lies w w.heap.size 2 A n (mc l)) (hn : n ≤ 1000000) :
    Calls Try.prog 54 #[.slice A n c, .int .i64 v] w fun e w' => e = .returned (.tuple #[.int .i64 (atV l v), .bool (atB l v)]) ∧ Below w.heap.size w w' := by
  obtain rfl := hA.ms_len
  go_enter Try.func54, Try.ntmps54
  go_wp2_with fail
  go_loopw [10] (fun i W => AtRel l v w i W) (fun i W => l.length - (intOf i).toNat)
  case atStart => exact ⟨0, rfl, Nat.zero_le _, ⟨rfl, rfl⟩, Below.refl _ _⟩
  case round =>
    obtain ⟨k, rfl, hk, hpre, hb⟩ := hrel
    have HP := Lib.hid hpre
    have HB := Lib.hid (hb.alloc hb.size (.cells #[.int .i64 (mAt l k).1, .int .i64 (mAt l k).2] 59))
    clear hpre
    by_cases hlt : k < l.length
    · obtain ⟨ad, rfl, hadb, e0, e1⟩ := (hA.below hb).ms k hlt
      have hkl : (k : Int) < (l.length : Int) := by omega
      clear hb
      by_cases he : (mAt l k).1 = v
      · have HR := Lib.hid (at_found hlt he)
        subst he
        go_wp2_with fail
        go_ret2
        exact ⟨ret_vb (HR.out.1.symm.trans HP.out.1.symm) (HR.out.2.symm.trans HP.out.2.symm), HB.out⟩
      · have HR := Lib.hid (at_step hlt he)
        have h3 : ((mAt l k).1 == v) = false := by simpa using he
        clear he
        go_wp2_with fail
        go_roundw
        case rel => exact ⟨k + 1, by go_num, by omega, ⟨HP.out.1.trans HR.out.1, HP.out.2.trans HR.out.2⟩, HB.out⟩
        case measure => simp [intOf]; omega
    · have hk' : k = l.length := by omega
      subst hk'
      have HR := Lib.hid (show atV l v = 0 ∧ atB l v = false by have := HP.out; rw [List.drop_length] at this; exact this)
      go_wp2_with fail
      go_ret2
      exact ⟨ret_vb HR.out.1.symm HR.out.2.symm, hb⟩
set_option maxHeartbeats 1000000 in
theorem rat_any (A : Option Addr) (n c : Nat) (l : List Ms) (v : Int) (w : World) (hA : Lies w w.heap.size 2 A n (mc l)) (hn : n ≤ 1000000) :
    Calls Try.prog 31 #[.slice A n c, .int .i64 v] w fun e w' => e = .returned (.tuple #[.int .i64 (atV l v), .bool (atB l v)]) ∧ Below w.heap.size w w' := by
  obtain rfl := hA.ms_len
  go_enter Try.func31, Try.ntmps31
  go_wp2_with fail
  go_loopw [6] (fun i W => AtRel l v w i W) (fun i W => l.length - (intOf i).toNat)
  case atStart => exact ⟨0, rfl, Nat.zero_le _, ⟨rfl, rfl⟩, Below.refl _ _⟩
  case round =>
    obtain ⟨k, rfl, hk, hpre, hb⟩ := hrel
    have HP := Lib.hid hpre
    clear hpre
    by_cases hlt : k < l.length
    · obtain ⟨ad, rfl, hadb, e0, e1⟩ := (hA.below hb).ms k hlt
      have hkl : (k : Int) < (l.length : Int) := by omega
      by_cases he : (mAt l k).1 = v
      · have HR := Lib.hid (at_found hlt he)
        subst he
        go_wp2_with fail
        go_ret2
        exact ⟨ret_vb (HR.out.1.symm.trans HP.out.1.symm) (HR.out.2.symm.trans HP.out.2.symm), hb⟩
      · have HR := Lib.hid (at_step hlt he)
        have h3 : ((mAt l k).1 == v) = false := by simpa using he
        clear he
        go_wp2_with fail
        go_roundw
        case rel => exact ⟨k + 1, by go_num, by omega, ⟨HP.out.1.trans HR.out.1, HP.out.2.trans HR.out.2⟩, hb⟩
        case measure => simp [intOf]; omega
    · have hk' : k = l.length := by omega
      subst hk'
      have HR := Lib.hid (show atV l v = 0 ∧ atB l v = false by have := HP.out; rw [List.drop_length] at this; exact this)
      go_wp2_with fail
      go_ret2
      exact ⟨ret_vb HR.out.1.symm HR.out.2.symm, hb⟩
theorem own_empty2 (w : World) (b : Nat) (hb : b ≤ w.heap.size) : (w.alloc (.cells #[] 59)).ownsRow b 59 2 (.slice (some ⟨w.heap.size, 0, none⟩) 0 0) 0 (mc []) :=
  ⟨rfl, .inr ⟨w.heap.size, 0, #[], rfl, hb, heap_alloc_new w _, Nat.le_refl _, Nat.zero_le _, rfl, rfl⟩⟩
end Go.Proofs.Ytcaccjfnibjbpaa

/-
  The contracts of the document's own Sort and Join. No condition but that the messages are not too many.
-/
namespace Go.Proofs.Ytcaccjfnibjbpaa
open Go.RowKit Go.Sort
set_option linter.unusedVariables false

/-- A row of the call's own, not empty: its cells, what a store leaves. -/
theorem own_some {w : World} {base n : Nat} {A : Option Addr} {c : Nat} {l : List Ms} (h : w.ownsRow base 59 2 (.slice A n c) n (mc l)) (hn : 0 < n) : ∃ g, A = some ⟨g, 0, none⟩ ∧ base ≤ g ∧ g < w.heap.size := by
  rcases h.2 with ⟨hv, h0⟩ | ⟨g, cap, cur, hv, hb, hg, _⟩
  · omega
  · injection hv with e1 e2 e3
    exact ⟨g, e1, hb, (Array.getElem?_eq_some_iff.1 hg).1⟩
section
variable {w : World} {base g n c : Nat} {l : List Ms}
theorem own_cell (h : w.ownsRow base 59 2 (.slice (some ⟨g, 0, none⟩) n c) n (mc l)) (k : Nat) (hk : k < n) :
    w.cell? ⟨g, k * 2, none⟩ = some (.int .i64 (mAt l k).1) ∧ w.cell? ⟨g, k * 2 + 1, none⟩ = some (.int .i64 (mAt l k).2) := by
  have hl := own_len h
  obtain ⟨a0, a1⟩ := mc_at l k (by omega)
  have e : ∀ j, (⟨g, 0, none⟩ : Addr).add j = ⟨g, j, none⟩ := fun j => by unfold Addr.add; split <;> simp_all
  have c0 := h.cells (g := g) rfl _ _ a0
  have c1 := h.cells (g := g) rfl _ _ a1
  rw [e] at c0 c1
  exact ⟨c0, c1⟩
theorem own_store (h : w.ownsRow base 59 2 (.slice (some ⟨g, 0, none⟩) n c) n (mc l)) (k : Nat) (x y : Int) :
    ((w.setCell ⟨g, k * 2, none⟩ (.int .i64 x)).setCell ⟨g, k * 2 + 1, none⟩ (.int .i64 y)).ownsRow base 59 2 (.slice (some ⟨g, 0, none⟩) n c) n (mc (l.set k (x, y))) := by
  have h1 := (h.stored (k * 2) (.int .i64 x)).1
  have h2 := (h1.stored (k * 2 + 1) (.int .i64 y)).1
  rw [mc_set] at h2
  exact h2
theorem own_store2 (h : w.ownsRow base 59 2 (.slice (some ⟨g, 0, none⟩) n c) n (mc l)) (k : Nat) (hk : k < n) (y : Int) :
    (w.setCell ⟨g, k * 2 + 1, none⟩ (.int .i64 y)).ownsRow base 59 2 (.slice (some ⟨g, 0, none⟩) n c) n (mc (l.set k ((mAt l k).1, y))) := by
  have h2 := (h.stored (k * 2 + 1) (.int .i64 y)).1
  rw [mc_set2 l k (by rw [own_len h]; exact hk)] at h2
  exact h2
end

/-- S with x put in at place k. -/
def putAt (S : List Ms) (k : Nat) (x : Ms) : List Ms := S.take k ++ x :: S.drop k
theorem putAt_len (S : List Ms) (k : Nat) (x : Ms) : (putAt S k x).length = S.length + 1 := by
  unfold putAt; simp; omega
theorem putAt_self (S : List Ms) (k : Nat) (x : Ms) (h : k ≤ S.length) : mAt (putAt S k x) k = x := by
  rw [mAt_get _ _ (by rw [putAt_len]; omega)]
  unfold putAt
  rw [List.getElem_append_right (by simp; omega)]
  simp [Nat.min_eq_left h]
theorem putAt_prev (S : List Ms) (k : Nat) (x : Ms) (h : k + 1 ≤ S.length) : mAt (putAt S (k + 1) x) k = mAt S k := by
  rw [mAt_get _ _ (by rw [putAt_len]; omega), mAt_get _ _ (by omega)]
  unfold putAt
  rw [List.getElem_append_left (by simp; omega)]
  simp
theorem putAt_step (S : List Ms) (k : Nat) (x : Ms) (h : k + 1 ≤ S.length) : ((putAt S (k + 1) x).set k x).set (k + 1) (mAt S k) = putAt S k x := by
  apply List.ext_getElem?
  intro i
  unfold putAt
  rw [mAt_get _ _ (by omega)]
  simp only [List.getElem?_set, List.getElem?_append, List.length_take, List.length_set, List.length_append, List.length_cons, List.length_drop, List.getElem?_take, List.getElem?_cons, List.getElem?_drop]
  rw [Nat.min_eq_left h, Nat.min_eq_left (show k ≤ S.length by omega)]
  by_cases h1 : i = k + 1
  · subst h1
    rw [if_pos rfl, if_pos (by omega), if_neg (by omega), if_neg (by omega), show k + (k + 1 - k - 1) = k by omega, List.getElem?_eq_getElem (by omega)]
  · rw [if_neg (by omega)]
    by_cases h2 : i = k
    · subst h2
      rw [if_pos rfl, if_pos (by omega), if_neg (by omega), if_pos (by omega)]
    · rw [if_neg (by omega)]
      by_cases h3 : i < k
      · rw [if_pos (by omega), if_pos (by omega), if_pos h3, if_pos h3]
      · rw [if_neg (by omega), if_neg (by omega), if_neg h3, if_neg (by omega)]
        congr 1; omega
theorem putAt_perm (S : List Ms) (k : Nat) (x : Ms) : (putAt S k x).Perm (x :: S) := by
  unfold putAt
  have := (List.perm_middle (a := x) (l₁ := S.take k) (l₂ := S.drop k))
  rwa [List.take_append_drop] at this
theorem putAt_end (S : List Ms) (x : Ms) : putAt S S.length x = S ++ [x] := by unfold putAt; simp
/-- Sorted, if all from k on are greater, and the one ahead isn't. -/
theorem putAt_srt (S : List Ms) (k : Nat) (x : Ms) (hS : Srt S) (h1 : ∀ s ∈ S.drop k, ltM x s = true) (h2 : k = 0 ∨ (k ≤ S.length ∧ ltM x (mAt S (k - 1)) = false)) : Srt (putAt S k x) := by
  unfold Srt at hS
  rw [← List.take_append_drop k S, List.pairwise_append] at hS
  obtain ⟨a1, a2, a3⟩ := hS
  unfold putAt Srt
  rw [List.pairwise_append]
  refine ⟨a1, List.pairwise_cons.2 ⟨fun s hs => asym ltM_swo (h1 s hs), a2⟩, fun a ha b hb => ?_⟩
  rcases List.mem_cons.1 hb with rfl | hb
  · rcases h2 with rfl | ⟨hk, h2⟩
    · simp at ha
    · obtain ⟨i, hi, rfl⟩ := List.mem_take_iff_getElem.1 ha
      by_cases e : i = k - 1
      · subst e
        rw [mAt_get S _ (by omega)] at h2
        exact h2
      · have : ltM (mAt S (k - 1)) S[i] = false := by
          rw [mAt_get S _ (by omega)]
          have hp : (S.take k).Pairwise _ := a1
          rw [List.pairwise_iff_getElem] at hp
          have := hp i (k - 1) (by simp; omega) (by simp; omega) (by omega)
          simpa using this
        exact ltM_swo.ntrans _ _ _ h2 this
  · exact a3 a ha b hb
theorem drop_more (S : List Ms) (k : Nat) (x : Ms) (h : k + 1 ≤ S.length) (h1 : ∀ s ∈ S.drop (k + 1), ltM x s = true) (h2 : ltM x (mAt S k) = true) : ∀ s ∈ S.drop k, ltM x s = true := by
  intro s hs
  rw [drop_at S k (by omega)] at hs
  rcases List.mem_cons.1 hs with rfl | hs
  · exact h2
  · exact h1 s hs
theorem msort_take (l : List Ms) (i : Nat) (h : i < l.length) (D : List Ms) (hp : D.Perm (mAt l i :: msort (l.take i))) (hs : Srt D) : D = msort (l.take (i + 1)) := by
  refine msort_is (hp.trans ?_) hs
  rw [List.take_succ_eq_append_getElem h, mAt_get l i h]
  exact (List.Perm.cons _ (msort_perm _)).trans (List.perm_append_singleton _ _).symm
/-- All that an exchange of two neighbours asks and leaves. -/
theorem own_swap {W : World} {base g c : Nat} {S : List Ms} {x s : Ms} {kp : Nat} (h : W.ownsRow base 59 2 (.slice (some ⟨g, 0, none⟩) (S.length + 1) c) (S.length + 1) (mc (putAt S (kp + 1) x))) (hk : kp + 1 ≤ S.length) (hs : s = mAt S kp) :
    W.cell? ⟨g, kp * 2, none⟩ = some (.int .i64 s.1) ∧ W.frozen? ⟨g, kp * 2, none⟩ = false ∧ W.frozen? ⟨g, kp * 2 + 1, none⟩ = false ∧ W.frozen? ⟨g, (kp + 1) * 2, none⟩ = false ∧ W.frozen? ⟨g, (kp + 1) * 2 + 1, none⟩ = false ∧
    (W.setCell ⟨g, kp * 2, none⟩ (.int .i64 x.1)).cell? ⟨g, kp * 2 + 1, none⟩ = some (.int .i64 s.2) ∧
    ((W.setCell ⟨g, kp * 2, none⟩ (.int .i64 x.1)).setCell ⟨g, kp * 2 + 1, none⟩ (.int .i64 x.2)).cell? ⟨g, (kp + 1) * 2, none⟩ = some (.int .i64 x.1) ∧
    (((W.setCell ⟨g, kp * 2, none⟩ (.int .i64 x.1)).setCell ⟨g, kp * 2 + 1, none⟩ (.int .i64 x.2)).setCell ⟨g, (kp + 1) * 2, none⟩ (.int .i64 s.1)).cell? ⟨g, (kp + 1) * 2 + 1, none⟩ = some (.int .i64 x.2) ∧
    ((((W.setCell ⟨g, kp * 2, none⟩ (.int .i64 x.1)).setCell ⟨g, kp * 2 + 1, none⟩ (.int .i64 x.2)).setCell ⟨g, (kp + 1) * 2, none⟩ (.int .i64 s.1)).setCell ⟨g, (kp + 1) * 2 + 1, none⟩ (.int .i64 s.2)).ownsRow base 59 2 (.slice (some ⟨g, 0, none⟩) (S.length + 1) c) (S.length + 1) (mc (putAt S kp x)) := by
  obtain ⟨p0, p1⟩ := own_cell h kp (by omega)
  obtain ⟨q0, q1⟩ := own_cell h (kp + 1) (by omega)
  rw [putAt_prev S kp x hk, ← hs] at p0 p1
  rw [putAt_self S (kp + 1) x hk] at q0 q1
  have ne : ∀ (X : World) (o o' : Nat) (v : Value), o ≠ o' → (X.setCell ⟨g, o, none⟩ v).cell? ⟨g, o', none⟩ = X.cell? ⟨g, o', none⟩ := fun X o o' v hne => World.cell?_setCell_other _ _ _ _ (by simp)
  refine ⟨p0, h.frozenAt _, h.frozenAt _, h.frozenAt _, h.frozenAt _, (ne _ _ _ _ (by omega)).trans p1, (ne _ _ _ _ (by omega)).trans ((ne _ _ _ _ (by omega)).trans q0), (ne _ _ _ _ (by omega)).trans ((ne _ _ _ _ (by omega)).trans ((ne _ _ _ _ (by omega)).trans q1)), ?_⟩
  have := own_store (own_store h kp x.1 x.2) (kp + 1) s.1 s.2
  rw [show ((x.1, x.2) : Ms) = x from rfl, show ((s.1, s.2) : Ms) = s from rfl, hs, putAt_step S kp x hk, ← hs] at this
  exact this
/-- The inner loop: x moves down. -/
def InRel (S : List Ms) (x : Ms) (g c : Nat) (w : World) (vk : Value) (W : World) : Prop :=
  ∃ k : Nat, vk = .int .i64 k ∧ k ≤ S.length ∧ Hid (W.ownsRow w.heap.size 59 2 (.slice (some ⟨g, 0, none⟩) (S.length + 1) c) (S.length + 1) (mc (putAt S k x))) ∧ Hid (∀ s ∈ S.drop k, ltM x s = true) ∧ Hid (Below w.heap.size w W)
def OutRel (l : List Ms) (w : World) (vo vi : Value) (W : World) : Prop :=
  ∃ (i : Nat) (A : Option Addr) (c : Nat), vi = .int .i64 i ∧ i ≤ l.length ∧ vo = .slice A i c ∧ Hid (W.ownsRow w.heap.size 59 2 (.slice A i c) i (mc (msort (l.take i)))) ∧ Hid (Below w.heap.size w W)
set_option maxRecDepth 20000 in
set_option maxHeartbeats 2000000 in
theorem rsort_any (A : Option Addr) (n c : Nat) (l : List Ms) (w : World) (hA : Lies w w.heap.size 2 A n (mc l)) (hn : n ≤ 1000000) :
    Calls Try.prog 61 #[.slice A n c] w (MlPost (msort l) w) := by
  have mixed : Try.prog.follows .mixedOrders = true := by kernel_rfl
  obtain rfl := hA.ms_len
  obtain ⟨i0, hi0, hz0, hzs, hzb⟩ := info_parts (show (Try.prog.info? 59).map (fun i => (i.zero, i.size, i.bytes)) = some (some (.agg #[.int .i64 0, .int .i64 0]), 2, 16) by kernel_rfl)
  have HI0 := Lib.hid hi0
  have HZ0 := Lib.hid hz0
  have HZS := Lib.hid hzs
  have HZB := Lib.hid hzb
  have HA := Lib.hid hA
  clear hi0 hz0 hzs hzb hA
  go_enter Try.func61, Try.ntmps61
  go_wp2_with fail
  go_loopw [3, 4] (fun o i W => OutRel l w o i W) (fun o i W => l.length - (intOf i).toNat)
  case atStart => exact ⟨0, none, 0, rfl, Nat.zero_le _, rfl, World.ownsRow_nil _ _ _ _, Below.refl _ _⟩
  case round =>
    obtain ⟨i, A1, c1, rfl, hi, rfl, HO, HB⟩ := hrel
    by_cases hlt : i < l.length
    · obtain ⟨ad, rfl, hadb, e0, e1⟩ := (HA.out.below HB.out).ms i hlt
      have hil : (i : Int) < (l.length : Int) := by omega
      have hz := HB.out.size
      obtain ⟨x, hx⟩ : ∃ x, x = mAt l i := ⟨_, rfl⟩
      rw [← hx] at e0 e1
      have HX := Lib.hid hx
      clear hx
      obtain ⟨S, hS⟩ : ∃ S, S = msort (l.take i) := ⟨_, rfl⟩
      have hSl : S.length = i := by rw [hS, msort_len, List.length_take]; omega
      rw [← hS] at HO
      have HS := Lib.hid hS
      have HO1 := Lib.hid (own_next HO.out (below_alloc wr (.cells #[.int .i64 x.1, .int .i64 x.2] 59)))
      have HL1 := Lib.hid (show Lies (wr.alloc (.cells #[.int .i64 x.1, .int .i64 x.2] 59)) (wr.heap.size + 1) 2 (some ⟨wr.heap.size, 0, none⟩) 1 (mc [x]) from lies_cells wr (mc [x]) 59 1 2 rfl)
      have HB1 := Lib.hid (HB.out.alloc hz (.cells #[.int .i64 x.1, .int .i64 x.2] 59))
      clear HO hS
      subst hSl
      go_wp2_with (at_builtin; go_must (refine wpList_app _ rfl (.tmp 14) (.tmp 19) 29 rfl w.heap.size 59 i0 _ 2 16 Try.underlying29 HI0.out HZ0.out HZS.out HZB.out rfl (by decide) A1 S.length c1 (mc S) rfl HO1.out (wr.heap.size + 1) (some ⟨wr.heap.size, 0, none⟩) 1 1 (mc [x]) rfl HL1.out (mc_one _) (S.length + 1) (mc (putAt S S.length x)) rfl (by rw [putAt_end, mc_append]) (by unfold maxLen; omega) (by omega) (by simp; omega) ?_))
      intro A4 c4 w4 ho4 hb4
      obtain ⟨g, rfl, hg1, hg2⟩ := own_some ho4 (by omega)
      have HO4 := Lib.hid ho4
      have HB4 := Lib.hid (HB1.out.trans hb4)
      clear ho4 hb4 HO1 HL1 HB1 hg2 e0 e1
      go_wp2_with fail
      go_loopw [5] (fun k W => InRel S x g c4 w k W) (fun k W => (intOf k).toNat)
      case atStart => exact ⟨S.length, by go_num, Nat.le_refl _, HO4, fun s hs => by simp at hs, HB4⟩
      case round =>
        clear HO4 HB4
        obtain ⟨k, rfl, hk, HO, HD, HB2⟩ := hrel
        by_cases h0 : k = 0
        · subst h0
          have HF := Lib.hid (msort_take l S.length hlt (putAt S 0 x) (by rw [← HX.out, ← HS.out]; exact putAt_perm S 0 x) (putAt_srt S 0 x (by rw [HS.out]; exact msort_srt _) HD.out (.inl rfl)))
          go_wp2_with fail
          go_roundw
          case rel => exact ⟨S.length + 1, some ⟨g, 0, none⟩, c4, by go_num, by omega, rfl, by rw [← HF.out]; exact HO, HB2⟩
          case measure => simp [intOf] <;> omega
        · obtain ⟨kp, rfl⟩ : ∃ kp, k = kp + 1 := ⟨k - 1, by omega⟩
          obtain ⟨p0, p1⟩ := own_cell HO.out kp (by omega)
          obtain ⟨q0, q1⟩ := own_cell HO.out (kp + 1) (by omega)
          rw [putAt_prev S kp x hk] at p0 p1
          rw [putAt_self S (kp + 1) x hk] at q0 q1
          obtain ⟨s, hs⟩ : ∃ s, s = mAt S kp := ⟨_, rfl⟩
          rw [← hs] at p0 p1
          have HSs := Lib.hid hs
          clear hs h0
          have kz : (0 : Int) < (kp : Int) + 1 := by omega
          have hgw : g < wr.heap.size := (HO.out.lt g rfl).2
          have al1 : ∀ (o : Obj) (j : Nat), (wr.alloc o).cell? ⟨g, j, none⟩ = wr.cell? ⟨g, j, none⟩ := fun o j => World.cell?_alloc_lt wr o ⟨g, j, none⟩ hgw
          have al2 : ∀ (o o' : Obj) (j : Nat), ((wr.alloc o).alloc o').cell? ⟨g, j, none⟩ = wr.cell? ⟨g, j, none⟩ := fun o o' j => (World.cell?_alloc_lt (wr.alloc o) o' ⟨g, j, none⟩ (by simp; omega)).trans (al1 o j)
          have HO2 : ∀ o o', Hid (((wr.alloc o).alloc o').drew.ownsRow w.heap.size 59 2 (.slice (some ⟨g, 0, none⟩) (S.length + 1) c4) (S.length + 1) (mc (putAt S (kp + 1) x))) := fun o o' => own_next (own_next HO.out (below_alloc _ o)) (below_alloc (wr.alloc o) o').drew
          have HB3 : ∀ o o', Hid (Below w.heap.size w ((wr.alloc o).alloc o').drew) := fun o o' => ((HB2.out.alloc HB2.out.size o).alloc (by have := HB2.out.size; simp; omega) o').drew
          clear HO HB2
          by_cases hb1 : s.1 < x.1
          · have HF := Lib.hid (msort_take l S.length hlt (putAt S (kp + 1) x) (by rw [← HX.out, ← HS.out]; exact putAt_perm S _ x) (putAt_srt S (kp + 1) x (by rw [HS.out]; exact msort_srt _) HD.out (.inr ⟨hk, by rw [Nat.add_sub_cancel, ← HSs.out, ltM_not]; omega⟩)))
            go_wp2_with fail
            go_region
            · go_wp2_with fail
              go_roundw
              case rel => exact ⟨S.length + 1, some ⟨g, 0, none⟩, c4, by go_num, by omega, rfl, by rw [← HF.out]; exact HO2 _ _, HB3 _ _⟩
              case measure => simp [intOf] <;> omega
            · go_wp2_with fail
              go_roundw
              case rel => exact ⟨S.length + 1, some ⟨g, 0, none⟩, c4, by go_num, by omega, rfl, by rw [← HF.out]; exact HO2 _ _, HB3 _ _⟩
              case measure => simp [intOf] <;> omega
          · by_cases hb2 : s.1 = x.1
            · by_cases hb3 : s.2 ≤ x.2
              · have HF := Lib.hid (msort_take l S.length hlt (putAt S (kp + 1) x) (by rw [← HX.out, ← HS.out]; exact putAt_perm S _ x) (putAt_srt S (kp + 1) x (by rw [HS.out]; exact msort_srt _) HD.out (.inr ⟨hk, by rw [Nat.add_sub_cancel, ← HSs.out, ltM_not]; omega⟩)))
                have hb2' : (s.1 == x.1) = true := by simpa using hb2
                clear hb2
                go_wp2_with fail
                go_region
                · go_wp2_with fail
                  go_roundw
                  case rel => exact ⟨S.length + 1, some ⟨g, 0, none⟩, c4, by go_num, by omega, rfl, by rw [← HF.out]; exact HO2 _ _, HB3 _ _⟩
                  case measure => simp [intOf] <;> omega
                · go_wp2_with fail
                  go_roundw
                  case rel => exact ⟨S.length + 1, some ⟨g, 0, none⟩, c4, by go_num, by omega, rfl, by rw [← HF.out]; exact HO2 _ _, HB3 _ _⟩
                  case measure => simp [intOf] <;> omega
              · have HM := Lib.hid (drop_more S kp x hk HD.out (by rw [← HSs.out, ltM_iff]; omega))
                have hb2' : (s.1 == x.1) = true := by simpa using hb2
                clear hb2
                go_wp2_with fail
                go_region
                · have hp0 : (((wr.alloc (.cells #[.int .i64 s.1, .int .i64 s.2] 59)).alloc (.cells #[.int .i64 x.1, .int .i64 x.2] 59)).drew).cell? ⟨wr.heap.size, 0, none⟩ = some (.int .i64 s.1) := by simp [go_sem]
                  have hp1 : (((wr.alloc (.cells #[.int .i64 s.1, .int .i64 s.2] 59)).alloc (.cells #[.int .i64 x.1, .int .i64 x.2] 59)).drew).cell? ⟨wr.heap.size, 1, none⟩ = some (.int .i64 s.2) := by simp [go_sem]
                  have hr0 : (((wr.alloc (.cells #[.int .i64 s.1, .int .i64 s.2] 59)).alloc (.cells #[.int .i64 x.1, .int .i64 x.2] 59)).drew).cell? ⟨wr.heap.size + 1, 0, none⟩ = some (.int .i64 x.1) := by simp [go_sem]
                  have hr1 : (((wr.alloc (.cells #[.int .i64 s.1, .int .i64 s.2] 59)).alloc (.cells #[.int .i64 x.1, .int .i64 x.2] 59)).drew).cell? ⟨wr.heap.size + 1, 1, none⟩ = some (.int .i64 x.2) := by simp [go_sem]
                  have hO := HO2 (.cells #[.int .i64 s.1, .int .i64 s.2] 59) (.cells #[.int .i64 x.1, .int .i64 x.2] 59)
                  have hB := HB3 (.cells #[.int .i64 s.1, .int .i64 s.2] 59) (.cells #[.int .i64 x.1, .int .i64 x.2] 59)
                  have npa : ¬ g = wr.heap.size := by omega
                  generalize ((wr.alloc (.cells #[.int .i64 s.1, .int .i64 s.2] 59)).alloc (.cells #[.int .i64 x.1, .int .i64 x.2] 59)).drew = W3 at hp0 hp1 hr0 hr1 hO hB ⊢
                  generalize wr.heap.size + 1 = pb at hr0 hr1 ⊢
                  generalize wr.heap.size = pa at hp0 hp1 npa ⊢
                  obtain ⟨y1, y2, y3, y4, y5, y6, y7, y8, y9⟩ := own_swap hO.out hk HSs.out
                  have z0 : ((W3.setCell ⟨g, kp * 2, none⟩ (.int .i64 x.1)).setCell ⟨g, kp * 2 + 1, none⟩ (.int .i64 x.2)).cell? ⟨pa, 0, none⟩ = some (.int .i64 s.1) := (World.cell?_setCell_other _ _ _ _ (by simp <;> omega)).trans ((World.cell?_setCell_other _ _ _ _ (by simp <;> omega)).trans hp0)
                  have z1 : ((W3.setCell ⟨g, kp * 2, none⟩ (.int .i64 x.1)).setCell ⟨g, kp * 2 + 1, none⟩ (.int .i64 x.2)).cell? ⟨pa, 1, none⟩ = some (.int .i64 s.2) := (World.cell?_setCell_other _ _ _ _ (by simp <;> omega)).trans ((World.cell?_setCell_other _ _ _ _ (by simp <;> omega)).trans hp1)
                  have HO9 := Lib.hid y9
                  have HB9 := Lib.hid ((((hB.out.setCell (p := ⟨g, kp * 2, none⟩) hg1 (.int .i64 x.1)).setCell (p := ⟨g, kp * 2 + 1, none⟩) hg1 (.int .i64 x.2)).setCell (p := ⟨g, (kp + 1) * 2, none⟩) hg1 (.int .i64 s.1)).setCell (p := ⟨g, (kp + 1) * 2 + 1, none⟩) hg1 (.int .i64 s.2))
                  clear y9 hO hB
                  go_wp2_with fail
                  go_roundw
                  case rel => exact ⟨kp, by go_num, by omega, HO9, HM, HB9⟩
                  case measure => simp [intOf] <;> omega
                · have hp0 : (((wr.alloc (.cells #[.int .i64 x.1, .int .i64 x.2] 59)).alloc (.cells #[.int .i64 s.1, .int .i64 s.2] 59)).drew).cell? ⟨wr.heap.size + 1, 0, none⟩ = some (.int .i64 s.1) := by simp [go_sem]
                  have hp1 : (((wr.alloc (.cells #[.int .i64 x.1, .int .i64 x.2] 59)).alloc (.cells #[.int .i64 s.1, .int .i64 s.2] 59)).drew).cell? ⟨wr.heap.size + 1, 1, none⟩ = some (.int .i64 s.2) := by simp [go_sem]
                  have hr0 : (((wr.alloc (.cells #[.int .i64 x.1, .int .i64 x.2] 59)).alloc (.cells #[.int .i64 s.1, .int .i64 s.2] 59)).drew).cell? ⟨wr.heap.size, 0, none⟩ = some (.int .i64 x.1) := by simp [go_sem]
                  have hr1 : (((wr.alloc (.cells #[.int .i64 x.1, .int .i64 x.2] 59)).alloc (.cells #[.int .i64 s.1, .int .i64 s.2] 59)).drew).cell? ⟨wr.heap.size, 1, none⟩ = some (.int .i64 x.2) := by simp [go_sem]
                  have hO := HO2 (.cells #[.int .i64 x.1, .int .i64 x.2] 59) (.cells #[.int .i64 s.1, .int .i64 s.2] 59)
                  have hB := HB3 (.cells #[.int .i64 x.1, .int .i64 x.2] 59) (.cells #[.int .i64 s.1, .int .i64 s.2] 59)
                  have npa : ¬ g = wr.heap.size + 1 := by omega
                  generalize ((wr.alloc (.cells #[.int .i64 x.1, .int .i64 x.2] 59)).alloc (.cells #[.int .i64 s.1, .int .i64 s.2] 59)).drew = W3 at hp0 hp1 hr0 hr1 hO hB ⊢
                  generalize wr.heap.size + 1 = pa at hp0 hp1 npa ⊢
                  generalize wr.heap.size = pb at hr0 hr1 ⊢
                  obtain ⟨y1, y2, y3, y4, y5, y6, y7, y8, y9⟩ := own_swap hO.out hk HSs.out
                  have z0 : ((W3.setCell ⟨g, kp * 2, none⟩ (.int .i64 x.1)).setCell ⟨g, kp * 2 + 1, none⟩ (.int .i64 x.2)).cell? ⟨pa, 0, none⟩ = some (.int .i64 s.1) := (World.cell?_setCell_other _ _ _ _ (by simp <;> omega)).trans ((World.cell?_setCell_other _ _ _ _ (by simp <;> omega)).trans hp0)
                  have z1 : ((W3.setCell ⟨g, kp * 2, none⟩ (.int .i64 x.1)).setCell ⟨g, kp * 2 + 1, none⟩ (.int .i64 x.2)).cell? ⟨pa, 1, none⟩ = some (.int .i64 s.2) := (World.cell?_setCell_other _ _ _ _ (by simp <;> omega)).trans ((World.cell?_setCell_other _ _ _ _ (by simp <;> omega)).trans hp1)
                  have HO9 := Lib.hid y9
                  have HB9 := Lib.hid ((((hB.out.setCell (p := ⟨g, kp * 2, none⟩) hg1 (.int .i64 x.1)).setCell (p := ⟨g, kp * 2 + 1, none⟩) hg1 (.int .i64 x.2)).setCell (p := ⟨g, (kp + 1) * 2, none⟩) hg1 (.int .i64 s.1)).setCell (p := ⟨g, (kp + 1) * 2 + 1, none⟩) hg1 (.int .i64 s.2))
                  clear y9 hO hB
                  go_wp2_with fail
                  go_roundw
                  case rel => exact ⟨kp, by go_num, by omega, HO9, HM, HB9⟩
                  case measure => simp [intOf] <;> omega
            · have HM := Lib.hid (drop_more S kp x hk HD.out (by rw [← HSs.out, ltM_iff]; omega))
              have hb2' : (s.1 == x.1) = false := by simpa using hb2
              clear hb2
              go_wp2_with fail
              go_region
              · have hp0 : (((wr.alloc (.cells #[.int .i64 s.1, .int .i64 s.2] 59)).alloc (.cells #[.int .i64 x.1, .int .i64 x.2] 59)).drew).cell? ⟨wr.heap.size, 0, none⟩ = some (.int .i64 s.1) := by simp [go_sem]
                have hp1 : (((wr.alloc (.cells #[.int .i64 s.1, .int .i64 s.2] 59)).alloc (.cells #[.int .i64 x.1, .int .i64 x.2] 59)).drew).cell? ⟨wr.heap.size, 1, none⟩ = some (.int .i64 s.2) := by simp [go_sem]
                have hr0 : (((wr.alloc (.cells #[.int .i64 s.1, .int .i64 s.2] 59)).alloc (.cells #[.int .i64 x.1, .int .i64 x.2] 59)).drew).cell? ⟨wr.heap.size + 1, 0, none⟩ = some (.int .i64 x.1) := by simp [go_sem]
                have hr1 : (((wr.alloc (.cells #[.int .i64 s.1, .int .i64 s.2] 59)).alloc (.cells #[.int .i64 x.1, .int .i64 x.2] 59)).drew).cell? ⟨wr.heap.size + 1, 1, none⟩ = some (.int .i64 x.2) := by simp [go_sem]
                have hO := HO2 (.cells #[.int .i64 s.1, .int .i64 s.2] 59) (.cells #[.int .i64 x.1, .int .i64 x.2] 59)
                have hB := HB3 (.cells #[.int .i64 s.1, .int .i64 s.2] 59) (.cells #[.int .i64 x.1, .int .i64 x.2] 59)
                have npa : ¬ g = wr.heap.size := by omega
                generalize ((wr.alloc (.cells #[.int .i64 s.1, .int .i64 s.2] 59)).alloc (.cells #[.int .i64 x.1, .int .i64 x.2] 59)).drew = W3 at hp0 hp1 hr0 hr1 hO hB ⊢
                generalize wr.heap.size + 1 = pb at hr0 hr1 ⊢
                generalize wr.heap.size = pa at hp0 hp1 npa ⊢
                obtain ⟨y1, y2, y3, y4, y5, y6, y7, y8, y9⟩ := own_swap hO.out hk HSs.out
                have z0 : ((W3.setCell ⟨g, kp * 2, none⟩ (.int .i64 x.1)).setCell ⟨g, kp * 2 + 1, none⟩ (.int .i64 x.2)).cell? ⟨pa, 0, none⟩ = some (.int .i64 s.1) := (World.cell?_setCell_other _ _ _ _ (by simp <;> omega)).trans ((World.cell?_setCell_other _ _ _ _ (by simp <;> omega)).trans hp0)
                have z1 : ((W3.setCell ⟨g, kp * 2, none⟩ (.int .i64 x.1)).setCell ⟨g, kp * 2 + 1, none⟩ (.int .i64 x.2)).cell? ⟨pa, 1, none⟩ = some (.int .i64 s.2) := (World.cell?_setCell_other _ _ _ _ (by simp <;> omega)).trans ((World.cell?_setCell_other _ _ _ _ (by simp <;> omega)).trans hp1)
                have HO9 := Lib.hid y9
                have HB9 := Lib.hid ((((hB.out.setCell (p := ⟨g, kp * 2, none⟩) hg1 (.int .i64 x.1)).setCell (p := ⟨g, kp * 2 + 1, none⟩) hg1 (.int .i64 x.2)).setCell (p := ⟨g, (kp + 1) * 2, none⟩) hg1 (.int .i64 s.1)).setCell (p := ⟨g, (kp + 1) * 2 + 1, none⟩) hg1 (.int .i64 s.2))
                clear y9 hO hB
                go_wp2_with fail
                go_roundw
                case rel => exact ⟨kp, by go_num, by omega, HO9, HM, HB9⟩
                case measure => simp [intOf] <;> omega
              · have hp0 : (((wr.alloc (.cells #[.int .i64 x.1, .int .i64 x.2] 59)).alloc (.cells #[.int .i64 s.1, .int .i64 s.2] 59)).drew).cell? ⟨wr.heap.size + 1, 0, none⟩ = some (.int .i64 s.1) := by simp [go_sem]
                have hp1 : (((wr.alloc (.cells #[.int .i64 x.1, .int .i64 x.2] 59)).alloc (.cells #[.int .i64 s.1, .int .i64 s.2] 59)).drew).cell? ⟨wr.heap.size + 1, 1, none⟩ = some (.int .i64 s.2) := by simp [go_sem]
                have hr0 : (((wr.alloc (.cells #[.int .i64 x.1, .int .i64 x.2] 59)).alloc (.cells #[.int .i64 s.1, .int .i64 s.2] 59)).drew).cell? ⟨wr.heap.size, 0, none⟩ = some (.int .i64 x.1) := by simp [go_sem]
                have hr1 : (((wr.alloc (.cells #[.int .i64 x.1, .int .i64 x.2] 59)).alloc (.cells #[.int .i64 s.1, .int .i64 s.2] 59)).drew).cell? ⟨wr.heap.size, 1, none⟩ = some (.int .i64 x.2) := by simp [go_sem]
                have hO := HO2 (.cells #[.int .i64 x.1, .int .i64 x.2] 59) (.cells #[.int .i64 s.1, .int .i64 s.2] 59)
                have hB := HB3 (.cells #[.int .i64 x.1, .int .i64 x.2] 59) (.cells #[.int .i64 s.1, .int .i64 s.2] 59)
                have npa : ¬ g = wr.heap.size + 1 := by omega
                generalize ((wr.alloc (.cells #[.int .i64 x.1, .int .i64 x.2] 59)).alloc (.cells #[.int .i64 s.1, .int .i64 s.2] 59)).drew = W3 at hp0 hp1 hr0 hr1 hO hB ⊢
                generalize wr.heap.size + 1 = pa at hp0 hp1 npa ⊢
                generalize wr.heap.size = pb at hr0 hr1 ⊢
                obtain ⟨y1, y2, y3, y4, y5, y6, y7, y8, y9⟩ := own_swap hO.out hk HSs.out
                have z0 : ((W3.setCell ⟨g, kp * 2, none⟩ (.int .i64 x.1)).setCell ⟨g, kp * 2 + 1, none⟩ (.int .i64 x.2)).cell? ⟨pa, 0, none⟩ = some (.int .i64 s.1) := (World.cell?_setCell_other _ _ _ _ (by simp <;> omega)).trans ((World.cell?_setCell_other _ _ _ _ (by simp <;> omega)).trans hp0)
                have z1 : ((W3.setCell ⟨g, kp * 2, none⟩ (.int .i64 x.1)).setCell ⟨g, kp * 2 + 1, none⟩ (.int .i64 x.2)).cell? ⟨pa, 1, none⟩ = some (.int .i64 s.2) := (World.cell?_setCell_other _ _ _ _ (by simp <;> omega)).trans ((World.cell?_setCell_other _ _ _ _ (by simp <;> omega)).trans hp1)
                have HO9 := Lib.hid y9
                have HB9 := Lib.hid ((((hB.out.setCell (p := ⟨g, kp * 2, none⟩) hg1 (.int .i64 x.1)).setCell (p := ⟨g, kp * 2 + 1, none⟩) hg1 (.int .i64 x.2)).setCell (p := ⟨g, (kp + 1) * 2, none⟩) hg1 (.int .i64 s.1)).setCell (p := ⟨g, (kp + 1) * 2 + 1, none⟩) hg1 (.int .i64 s.2))
                clear y9 hO hB
                go_wp2_with fail
                go_roundw
                case rel => exact ⟨kp, by go_num, by omega, HO9, HM, HB9⟩
                case measure => simp [intOf] <;> omega
    · have hi' : i = l.length := by omega
      subst hi'
      rw [List.take_length] at HO
      go_wp2_with fail
      go_ret
      unfold MlPost
      rw [msort_len]
      exact ⟨A1, c1, rfl, HO.out, HB.out⟩
end Go.Proofs.Ytcaccjfnibjbpaa

