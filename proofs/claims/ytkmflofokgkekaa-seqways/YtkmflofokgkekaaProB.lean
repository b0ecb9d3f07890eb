/-
  Contracts of programOf: for a number of a program its row, else none. No condition.
-/
import Derived.Test.YtkmflofokgkekaaProA
namespace Go.Proofs.Ytkmflofokgkekaa
open Go.ChangeShapes Go.WideShapes Go.ChangeAt Go.RowKit
set_option linter.unusedVariables false

theorem better_less (p : Int) (hp : p = 1 ∨ p = 2 ∨ p = 3) (B b : Nat) (s st v val got : Int) (sm : Bool) (W : World) (hC : Cap B p #[.pointer (some ⟨b, 0, none⟩)] W) :
    Calls Try.prog 82 #[.agg #[.int .i64 s, .int .i64 st, .int .i64 v, .int .i64 val, .int .i64 got, .bool sm], .pointer (some ⟨b, 0, none⟩)] W fun e W' =>
      e = .returned (.tuple #[.int .i64 (valX p st val got sm), .bool (valB p st val got sm)]) ∧ Below W.heap.size W W' := by
  have h5 : ¬ p = 5 := by omega
  have h4 : ¬ p = 4 := by omega
  rcases hC with hC | ⟨b', hb', _, hl, hc⟩
  · exact absurd hC h5
  have e0 : b = b' := by injection hb' with e; injection e with e _; injection e with e; injection e with e; injection e with e
  subst e0
  rw [if_neg h4] at hc
  cases sm with
  | true =>
    have e1 : valX p st val got true = lessI val got := by unfold valX foldX; rw [if_neg h5, if_pos rfl, if_neg h5, if_neg h4]
    have e2 : valB p st val got true = true := by unfold valB; rw [if_neg h5]
    rw [e1, e2]
    exact better_some 54 lessI Try.call54 less_any b s st v val got W hc hl
  | false =>
    have e1 : valX p st val got false = val := by unfold valX; rw [if_neg h5]; rfl
    have e2 : valB p st val got false = true := by unfold valB; rw [if_neg h5]
    rw [e1, e2]
    exact better_none b s st v val got W
theorem better_great (B b : Nat) (s st v val got : Int) (sm : Bool) (W : World) (hC : Cap B 4 #[.pointer (some ⟨b, 0, none⟩)] W) :
    Calls Try.prog 82 #[.agg #[.int .i64 s, .int .i64 st, .int .i64 v, .int .i64 val, .int .i64 got, .bool sm], .pointer (some ⟨b, 0, none⟩)] W fun e W' =>
      e = .returned (.tuple #[.int .i64 (valX 4 st val got sm), .bool (valB 4 st val got sm)]) ∧ Below W.heap.size W W' := by
  rcases hC with hC | ⟨b', hb', _, hl, hc⟩
  · cases hC
  have e0 : b = b' := by injection hb' with e; injection e with e _; injection e with e; injection e with e; injection e with e
  subst e0
  rw [if_pos rfl] at hc
  cases sm with
  | true => exact better_some 64 greatI Try.call64 greater_any b s st v val got W hc hl
  | false => exact better_none b s st v val got W

theorem prg1 (b : Nat) : Prg 1 53 54 82 56 57 58 #[.pointer (some ⟨b, 0, none⟩)] where
  c0 := Try.call53
  c1 := Try.call54
  c2 := Try.call82
  c3 := Try.call56
  c4 := Try.call57
  c5 := Try.call58
  start := fun s v W => fromSource_any s v W
  fold := fun a b W _ _ => less_any a b W
  value := fun s st v val got sm W B hC hv hg => better_less 1 (.inl rfl) B b s st v val got sm W hC
  sends := fun s st v val got sm now W => movedS_any s st v val got sm now W
  along := fun now x m W h1 h2 h3 => weight_any now x m W h1 h2
  rests := fun st W => always_any st W
theorem prg2 (b : Nat) : Prg 2 59 54 82 60 61 58 #[.pointer (some ⟨b, 0, none⟩)] where
  c0 := Try.call59
  c1 := Try.call54
  c2 := Try.call82
  c3 := Try.call60
  c4 := Try.call61
  c5 := Try.call58
  start := fun s v W => own_any s v W
  fold := fun a b W _ _ => less_any a b W
  value := fun s st v val got sm W B hC hv hg => better_less 2 (.inr (.inl rfl)) B b s st v val got sm W hC
  sends := fun s st v val got sm now W => moved_any s st v val got sm now W
  along := fun now x m W h1 h2 h3 => asIs_any now x m W
  rests := fun st W => always_any st W
theorem prg3 (b : Nat) : Prg 3 53 54 82 56 62 58 #[.pointer (some ⟨b, 0, none⟩)] where
  c0 := Try.call53
  c1 := Try.call54
  c2 := Try.call82
  c3 := Try.call56
  c4 := Try.call62
  c5 := Try.call58
  start := fun s v W => fromSource_any s v W
  fold := fun a b W _ _ => less_any a b W
  value := fun s st v val got sm W B hC hv hg => better_less 3 (.inr (.inr rfl)) B b s st v val got sm W hC
  sends := fun s st v val got sm now W => movedS_any s st v val got sm now W
  along := fun now x m W h1 h2 h3 => one_any now x m W h1
  rests := fun st W => always_any st W
theorem prg4 (b : Nat) : Prg 4 63 64 82 60 61 58 #[.pointer (some ⟨b, 0, none⟩)] where
  c0 := Try.call63
  c1 := Try.call64
  c2 := Try.call82
  c3 := Try.call60
  c4 := Try.call61
  c5 := Try.call58
  start := fun s v W => mark_any s v W
  fold := fun a b W _ _ => greater_any a b W
  value := fun s st v val got sm W B hC hv hg => better_great B b s st v val got sm W hC
  sends := fun s st v val got sm now W => moved_any s st v val got sm now W
  along := fun now x m W h1 h2 h3 => asIs_any now x m W
  rests := fun st W => always_any st W

theorem of1 (w : World) : Calls Try.prog 39 #[.int .i64 1] w (OfPost 1 w) := by
  go_enter Try.func39, Try.ntmps39
  go_wp2
  refine bodyPost_ret (v := .tuple #[.agg #[.func (.func 53) #[] #[], .func (.func 54) #[] #[], .func (.func 82) #[] #[.pointer (some ⟨w.heap.size + 1, 0, none⟩)], .func (.func 56) #[] #[], .func (.func 57) #[] #[], .func (.func 58) #[] #[]], .bool true]) (by simp [results, Try.results39, go_sem]) rfl ?_
  exact ⟨((Below.refl _ _).alloc (Nat.le_refl _) _).alloc (by simp) _, _, _, _, _, _, _, _, rfl, prg1 _, .inr ⟨_, rfl, by simp, by simp, by simp [go_sem]⟩⟩
theorem of2 (w : World) : Calls Try.prog 39 #[.int .i64 2] w (OfPost 2 w) := by
  go_enter Try.func39, Try.ntmps39
  go_wp2
  refine bodyPost_ret (v := .tuple #[.agg #[.func (.func 59) #[] #[], .func (.func 54) #[] #[], .func (.func 82) #[] #[.pointer (some ⟨w.heap.size + 1, 0, none⟩)], .func (.func 60) #[] #[], .func (.func 61) #[] #[], .func (.func 58) #[] #[]], .bool true]) (by simp [results, Try.results39, go_sem]) rfl ?_
  exact ⟨((Below.refl _ _).alloc (Nat.le_refl _) _).alloc (by simp) _, _, _, _, _, _, _, _, rfl, prg2 _, .inr ⟨_, rfl, by simp, by simp, by simp [go_sem]⟩⟩
theorem of3 (w : World) : Calls Try.prog 39 #[.int .i64 3] w (OfPost 3 w) := by
  go_enter Try.func39, Try.ntmps39
  go_wp2
  refine bodyPost_ret (v := .tuple #[.agg #[.func (.func 53) #[] #[], .func (.func 54) #[] #[], .func (.func 82) #[] #[.pointer (some ⟨w.heap.size + 1, 0, none⟩)], .func (.func 56) #[] #[], .func (.func 62) #[] #[], .func (.func 58) #[] #[]], .bool true]) (by simp [results, Try.results39, go_sem]) rfl ?_
  exact ⟨((Below.refl _ _).alloc (Nat.le_refl _) _).alloc (by simp) _, _, _, _, _, _, _, _, rfl, prg3 _, .inr ⟨_, rfl, by simp, by simp, by simp [go_sem]⟩⟩
theorem of4 (w : World) : Calls Try.prog 39 #[.int .i64 4] w (OfPost 4 w) := by
  go_enter Try.func39, Try.ntmps39
  go_wp2
  refine bodyPost_ret (v := .tuple #[.agg #[.func (.func 63) #[] #[], .func (.func 64) #[] #[], .func (.func 82) #[] #[.pointer (some ⟨w.heap.size + 1, 0, none⟩)], .func (.func 60) #[] #[], .func (.func 61) #[] #[], .func (.func 58) #[] #[]], .bool true]) (by simp [results, Try.results39, go_sem]) rfl ?_
  exact ⟨((Below.refl _ _).alloc (Nat.le_refl _) _).alloc (by simp) _, _, _, _, _, _, _, _, rfl, prg4 _, .inr ⟨_, rfl, by simp, by simp, by simp [go_sem]⟩⟩
theorem of5 (w : World) : Calls Try.prog 39 #[.int .i64 5] w (OfPost 5 w) := by
  go_enter Try.func39, Try.ntmps39
  go_wp2
  refine bodyPost_ret (v := .tuple #[.agg #[.func (.func 65) #[] #[], .func (.func 66) #[] #[], .func (.func 67) #[] #[], .func (.func 68) #[] #[], .func (.func 69) #[] #[], .func (.func 70) #[] #[]], .bool true]) (by simp [results, Try.results39, go_sem]) rfl ?_
  exact ⟨below_alloc _ _, _, _, _, _, _, _, _, rfl, prg5, .inl rfl⟩
theorem of_yes (p : Int) (w : World) (h1 : 1 ≤ p) (h2 : p ≤ 5) : Calls Try.prog 39 #[.int .i64 p] w (OfPost p w) := by
  obtain rfl | rfl | rfl | rfl | rfl : p = 1 ∨ p = 2 ∨ p = 3 ∨ p = 4 ∨ p = 5 := by omega
  · exact of1 w
  · exact of2 w
  · exact of3 w
  · exact of4 w
  · exact of5 w
theorem of_no (p : Int) (w : World) (h : p < 1 ∨ 5 < p) : Calls Try.prog 39 #[.int .i64 p] w fun e w' =>
    e = .returned (.tuple #[.agg #[.nilFunc, .nilFunc, .nilFunc, .nilFunc, .nilFunc, .nilFunc], .bool false]) ∧ Below w.heap.size w w' := by
  have h1 : (p == 1) = false := by simp; omega
  have h2 : (p == 2) = false := by simp; omega
  have h3 : (p == 3) = false := by simp; omega
  have h4 : (p == 4) = false := by simp; omega
  have h5 : (p == 5) = false := by simp; omega
  clear h
  go_enter Try.func39, Try.ntmps39
  go_wp2
  refine bodyPost_ret (v := .tuple #[.agg #[.nilFunc, .nilFunc, .nilFunc, .nilFunc, .nilFunc, .nilFunc], .bool false]) (by simp [results, Try.results39, go_sem]) rfl ?_
  exact ⟨rfl, below_alloc _ _⟩

end Go.Proofs.Ytkmflofokgkekaa
