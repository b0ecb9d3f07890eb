/-
  Contracts of the functions that stand in a program's row: the value at the beginning, the fold, the value, whether it sends, what goes along an edge, whether it rests. No condition.
-/
import Derived.Test.YtkmflofokgkekaaJob
import Derived.Test.YtkmflofokgkekaaGrD
import Derived.Laws.EntriesVeiled
namespace Go.Proofs.Ytkmflofokgkekaa
open Go.ChangeShapes Go.WideShapes Go.ChangeAt Go.RowKit
set_option linter.unusedVariables false

theorem below_eq {w w' : World} (h : w = w') : Below w.heap.size w w' := by subst h; exact Below.refl _ _
theorem ret_tb {a b : Int} {c d : Bool} (h : a = b) (g : c = d) : Ending.returned (.tuple #[.int .i64 a, .bool c]) = .returned (.tuple #[.int .i64 b, .bool d]) := by rw [h, g]
theorem ret_b {a b : Bool} (h : a = b) : Ending.returned (.bool a) = .returned (.bool b) := by rw [h]

theorem fromSource_any (s v : Int) (w : World) : Calls Try.prog 53 #[.int .i64 s, .int .i64 v] w fun e w' => e = .returned (.int .i64 (if v = s then 0 else 9223372036854775807)) ∧ w = w' := by
  by_cases h : v = s
  · rw [if_pos h]
    subst h
    go_enter Try.func53, Try.ntmps53
    go_wp2
    go_ret
    exact ⟨rfl, rfl⟩
  · rw [if_neg h]
    have h' : (v == s) = false := by simpa using h
    clear h
    go_enter Try.func53, Try.ntmps53
    go_wp2
    go_ret
    exact ⟨rfl, rfl⟩
theorem own_any (s v : Int) (w : World) : Calls Try.prog 59 #[.int .i64 s, .int .i64 v] w fun e w' => e = .returned (.int .i64 v) ∧ w = w' := by
  go_enter Try.func59, Try.ntmps59
  go_wp2
  go_ret
  exact ⟨rfl, rfl⟩
theorem mark_any (s v : Int) (w : World) : Calls Try.prog 63 #[.int .i64 s, .int .i64 v] w fun e w' => e = .returned (.int .i64 (markI v)) ∧ w = w' := by
  go_enter Try.func63, Try.ntmps63
  go_wp2
  go_ret
  exact ⟨rfl, rfl⟩
theorem unit_any (s v : Int) (w : World) : Calls Try.prog 65 #[.int .i64 s, .int .i64 v] w fun e w' => e = .returned (.int .i64 1000000) ∧ w = w' := by
  go_enter Try.func65, Try.ntmps65
  go_wp2
  go_ret
  exact ⟨rfl, rfl⟩

theorem less_any (a b : Int) (w : World) : Calls Try.prog 54 #[.int .i64 a, .int .i64 b] w fun e w' => e = .returned (.tuple #[.int .i64 (lessI a b), .bool true]) ∧ w = w' := by
  go_enter Try.func54, Try.ntmps54
  go_wp2
  · go_ret2
    exact ⟨ret_tb (by unfold lessI; rw [if_pos (by assumption)]) rfl, rfl⟩
  · go_ret2
    exact ⟨ret_tb (by unfold lessI; rw [if_neg (by omega)]) rfl, rfl⟩
theorem greater_any (a b : Int) (w : World) : Calls Try.prog 64 #[.int .i64 a, .int .i64 b] w fun e w' => e = .returned (.tuple #[.int .i64 (greatI a b), .bool true]) ∧ w = w' := by
  go_enter Try.func64, Try.ntmps64
  go_wp2
  · go_ret2
    exact ⟨ret_tb (by unfold greatI; rw [if_pos (by assumption)]) rfl, rfl⟩
  · go_ret2
    exact ⟨ret_tb (by unfold greatI; rw [if_neg (by omega)]) rfl, rfl⟩

/-- The value of all but Rank: the fold's, if something came. -/
theorem better_some (k : Nat) (f : Int → Int → Int) (hk : ∀ a W, (callFunc k a).run Try.prog W = .ok (.enter k a) W)
    (hf : ∀ a b W, Calls Try.prog k #[.int .i64 a, .int .i64 b] W fun e W' => e = .returned (.tuple #[.int .i64 (f a b), .bool true]) ∧ W = W')
    (b : Nat) (s st v val got : Int) (w : World) (hb : w.cell? ⟨b, 0, none⟩ = some (.func (.func k) #[] #[])) (hl : b < w.heap.size) :
    Calls Try.prog 82 #[.agg #[.int .i64 s, .int .i64 st, .int .i64 v, .int .i64 val, .int .i64 got, .bool true], .pointer (some ⟨b, 0, none⟩)] w fun e w' =>
      e = .returned (.tuple #[.int .i64 (f val got), .bool true]) ∧ Below w.heap.size w w' := by
  have HF := Lib.hid hf
  clear hf
  go_enter Try.func82, Try.ntmps82
  go_wp2_with fail
  refine (HF.out val got _).mono ?_
  rintro e w' ⟨rfl, rfl⟩
  go_wp2_with fail
  go_ret2
  exact ⟨rfl, below_alloc _ _⟩
theorem better_none (b : Nat) (s st v val got : Int) (w : World) :
    Calls Try.prog 82 #[.agg #[.int .i64 s, .int .i64 st, .int .i64 v, .int .i64 val, .int .i64 got, .bool false], .pointer (some ⟨b, 0, none⟩)] w fun e w' =>
      e = .returned (.tuple #[.int .i64 val, .bool true]) ∧ Below w.heap.size w w' := by
  go_enter Try.func82, Try.ntmps82
  go_wp2_with fail
  go_ret2
  exact ⟨rfl, below_alloc _ _⟩

theorem moved_any (s st v val got : Int) (sm : Bool) (now : Int) (w : World) :
    Calls Try.prog 60 #[.agg #[.int .i64 s, .int .i64 st, .int .i64 v, .int .i64 val, .int .i64 got, .bool sm], .int .i64 now] w fun e w' =>
      e = .returned (.bool (now != val || st == 0)) ∧ Below w.heap.size w w' := by
  by_cases h : now = val
  · subst h
    go_enter Try.func60, Try.ntmps60
    go_wp2
    all_goals
      go_ret
      exact ⟨ret_b (by simp), below_alloc _ _⟩
  · have h' : (now != val) = true := by simpa using h
    clear h
    have HH := Lib.hid h'
    go_enter Try.func60, Try.ntmps60
    go_wp2
    all_goals
      go_ret
      exact ⟨ret_b (by simp [HH.out]), below_alloc _ _⟩
theorem movedS_any (s st v val got : Int) (sm : Bool) (now : Int) (w : World) :
    Calls Try.prog 56 #[.agg #[.int .i64 s, .int .i64 st, .int .i64 v, .int .i64 val, .int .i64 got, .bool sm], .int .i64 now] w fun e w' =>
      e = .returned (.bool (now != val || (st == 0 && v == s))) ∧ Below w.heap.size w w' := by
  by_cases h : now = val
  · subst h
    by_cases h0 : st = 0
    · subst h0
      go_enter Try.func56, Try.ntmps56
      go_wp2
      go_ret
      exact ⟨ret_b (by simp), below_alloc _ _⟩
    · have h0' : (st == 0) = false := by simpa using h0
      clear h0
      have HH := Lib.hid h0'
      go_enter Try.func56, Try.ntmps56
      go_wp2
      go_ret
      exact ⟨ret_b (by simp [HH.out]), below_alloc _ _⟩
  · have h' : (now != val) = true := by simpa using h
    clear h
    have HH := Lib.hid h'
    go_enter Try.func56, Try.ntmps56
    go_wp2
    go_ret
    exact ⟨ret_b (by simp [HH.out]), below_alloc _ _⟩
theorem inRounds_any (s st v val got : Int) (sm : Bool) (now : Int) (w : World) :
    Calls Try.prog 68 #[.agg #[.int .i64 s, .int .i64 st, .int .i64 v, .int .i64 val, .int .i64 got, .bool sm], .int .i64 now] w fun e w' =>
      e = .returned (.bool (decide (st < 10))) ∧ Below w.heap.size w w' := by
  go_enter Try.func68, Try.ntmps68
  go_wp2
  go_ret
  exact ⟨rfl, below_alloc _ _⟩
theorem always_any (st : Int) (w : World) : Calls Try.prog 58 #[.int .i64 st] w fun e w' => e = .returned (.bool true) ∧ w = w' := by
  go_enter Try.func58, Try.ntmps58
  go_wp2
  go_ret
  exact ⟨rfl, rfl⟩
theorem behind_any (st : Int) (w : World) : Calls Try.prog 70 #[.int .i64 st] w fun e w' => e = .returned (.bool (decide (10 ≤ st))) ∧ w = w' := by
  go_enter Try.func70, Try.ntmps70
  go_wp2
  go_ret
  exact ⟨rfl, rfl⟩

theorem weight_any (now : Int) (x : Ed) (m : Int) (w : World) (h1 : bd now) (h2 : bd x.2.2) :
    Calls Try.prog 57 #[.int .i64 now, .agg #[.int .i64 x.1, .int .i64 x.2.1, .int .i64 x.2.2], .int .i64 m] w fun e w' =>
      e = .returned (.tuple #[.int .i64 (told (now + x.2.2)), .bool (fits (now + x.2.2))]) ∧ Below w.heap.size w w' := by
  go_enter Try.func57, Try.ntmps57
  go_wp2_with fail
  refine (add_any now x.2.2 _ h1.1 h1.2 h2.1 h2.2).mono ?_
  rintro e w' ⟨rfl, rfl⟩
  go_wp2_with fail
  go_ret2
  exact ⟨rfl, below_alloc _ _⟩
theorem one_any (now : Int) (x : Ed) (m : Int) (w : World) (h1 : bd now) :
    Calls Try.prog 62 #[.int .i64 now, .agg #[.int .i64 x.1, .int .i64 x.2.1, .int .i64 x.2.2], .int .i64 m] w fun e w' =>
      e = .returned (.tuple #[.int .i64 (told (now + 1)), .bool (fits (now + 1))]) ∧ Below w.heap.size w w' := by
  go_enter Try.func62, Try.ntmps62
  go_wp2_with fail
  refine (add_any now 1 _ h1.1 h1.2 (by decide) (by decide)).mono ?_
  rintro e w' ⟨rfl, rfl⟩
  go_wp2_with fail
  go_ret2
  exact ⟨rfl, below_alloc _ _⟩
theorem asIs_any (now : Int) (x : Ed) (m : Int) (w : World) :
    Calls Try.prog 61 #[.int .i64 now, .agg #[.int .i64 x.1, .int .i64 x.2.1, .int .i64 x.2.2], .int .i64 m] w fun e w' =>
      e = .returned (.tuple #[.int .i64 now, .bool true]) ∧ Below w.heap.size w w' := by
  go_enter Try.func61, Try.ntmps61
  go_wp2_with fail
  go_ret2
  exact ⟨rfl, below_alloc _ _⟩
theorem share_any (now : Int) (x : Ed) (m : Int) (w : World) (h1 : bd now) (h2 : bd m) :
    Calls Try.prog 69 #[.int .i64 now, .agg #[.int .i64 x.1, .int .i64 x.2.1, .int .i64 x.2.2], .int .i64 m] w fun e w' =>
      e = .returned (.tuple #[.int .i64 (quoV now 1 m), .bool (quoB now 1 m)]) ∧ Below w.heap.size w w' := by
  go_enter Try.func69, Try.ntmps69
  go_wp2_with fail
  refine (ratio_any now 1 m _ h1.1 h1.2 (by decide) (by decide) h2.1 h2.2).mono ?_
  rintro e w1 ⟨rfl, G1⟩
  have hb := (below_alloc w _).trans (G1.mono (by simp))
  have HB := Lib.hid hb
  clear G1 hb
  go_wp2_with fail
  go_ret2
  exact ⟨rfl, HB.out⟩
theorem rank_zero (s v val got : Int) (sm : Bool) (w : World) :
    Calls Try.prog 67 #[.agg #[.int .i64 s, .int .i64 0, .int .i64 v, .int .i64 val, .int .i64 got, .bool sm]] w fun e w' =>
      e = .returned (.tuple #[.int .i64 val, .bool true]) ∧ Below w.heap.size w w' := by
  go_enter Try.func67, Try.ntmps67
  go_wp2_with fail
  go_ret2
  exact ⟨rfl, below_alloc _ _⟩

theorem rank_more (s st v val got : Int) (sm : Bool) (w : World) (h0 : ¬ st = 0) (hg : bd got) :
    Calls Try.prog 67 #[.agg #[.int .i64 s, .int .i64 st, .int .i64 v, .int .i64 val, .int .i64 got, .bool sm]] w fun e w' =>
      e = .returned (.tuple #[.int .i64 (if quoB (cameI got sm) 85 100 = true then told (150000 + quoV (cameI got sm) 85 100) else 0), .bool (if quoB (cameI got sm) 85 100 = true then fits (150000 + quoV (cameI got sm) 85 100) else false)]) ∧ Below w.heap.size w w' := by
  have h0' : (st == 0) = false := by simpa using h0
  clear h0
  have HB := Lib.hid (cameI_bd (sm := sm) hg)
  have HQ := Lib.hid (quoV_bd (cameI got sm) 85 100)
  clear hg
  cases sm with
  | true =>
    have e1 : cameI got true = got := rfl
    rw [e1] at HB HQ ⊢
    clear e1
    by_cases hq : quoB got 85 100 = true
    · rw [if_pos hq, if_pos hq]
      go_enter Try.func67, Try.ntmps67
      go_wp2_with fail
      refine (ratio_any got 85 100 _ HB.out.1 HB.out.2 (by decide) (by decide) (by decide) (by decide)).mono ?_
      rintro e w1 ⟨rfl, G1⟩
      have H1 := Lib.hid ((below_alloc w _).trans (G1.mono (by simp)))
      clear G1
      go_wp2_with fail
      refine (add_any 150000 (quoV got 85 100) _ (by decide) (by decide) HQ.out.1 HQ.out.2).mono ?_
      rintro e w' ⟨rfl, rfl⟩
      go_wp2_with fail
      go_ret2
      exact ⟨rfl, H1.out⟩
    · rw [if_neg hq, if_neg hq]
      have hq' : quoB got 85 100 = false := by simpa using hq
      clear hq
      go_enter Try.func67, Try.ntmps67
      go_wp2_with fail
      refine (ratio_any got 85 100 _ HB.out.1 HB.out.2 (by decide) (by decide) (by decide) (by decide)).mono ?_
      rintro e w1 ⟨rfl, G1⟩
      have H1 := Lib.hid ((below_alloc w _).trans (G1.mono (by simp)))
      clear G1
      go_wp2_with fail
      go_ret2
      exact ⟨rfl, H1.out⟩
  | false =>
    have e1 : cameI got false = 0 := rfl
    rw [e1] at HB HQ ⊢
    clear e1
    by_cases hq : quoB 0 85 100 = true
    · rw [if_pos hq, if_pos hq]
      go_enter Try.func67, Try.ntmps67
      go_wp2_with fail
      refine (ratio_any 0 85 100 _ HB.out.1 HB.out.2 (by decide) (by decide) (by decide) (by decide)).mono ?_
      rintro e w1 ⟨rfl, G1⟩
      have H1 := Lib.hid ((below_alloc w _).trans (G1.mono (by simp)))
      clear G1
      go_wp2_with fail
      refine (add_any 150000 (quoV 0 85 100) _ (by decide) (by decide) HQ.out.1 HQ.out.2).mono ?_
      rintro e w' ⟨rfl, rfl⟩
      go_wp2_with fail
      go_ret2
      exact ⟨rfl, H1.out⟩
    · exact absurd (by kernel_rfl) hq

/-- What the program's value function has captured lies in memory, at block B or behind it. -/
def Cap (B : Nat) (p : Int) (y : Array Value) (W : World) : Prop :=
  p = 5 ∨ ∃ b, y = #[.pointer (some ⟨b, 0, none⟩)] ∧ B ≤ b ∧ b < W.heap.size ∧ W.cell? ⟨b, 0, none⟩ = some (.func (.func (if p = 4 then 64 else 54)) #[] #[])
theorem Cap.next {B : Nat} {p : Int} {y : Array Value} {W W' : World} (h : Cap B p y W) (hb : Below W.heap.size W W') : Cap B p y W' := by
  rcases h with h | ⟨b, h1, h2, h3, h4⟩
  · exact .inl h
  · exact .inr ⟨b, h1, h2, Nat.lt_of_lt_of_le h3 hb.size, (hb.cell (p := ⟨b, 0, none⟩) h3).trans h4⟩
theorem Cap.set {B : Nat} {p : Int} {y : Array Value} {W : World} (h : Cap B p y W) {a : Addr} (ha : a.block < B) (v : Value) : Cap B p y (W.setCell a v) := by
  rcases h with h | ⟨b, h1, h2, h3, h4⟩
  · exact .inl h
  · exact .inr ⟨b, h1, h2, by simpa [World.setCell] using h3, (World.cell?_setCell_other _ _ _ _ (by intro e; rw [e] at ha; simp at ha; omega)).trans h4⟩
theorem Cap.low {B B' : Nat} {p : Int} {y : Array Value} {W : World} (h : Cap B p y W) (hB : B' ≤ B) : Cap B' p y W := by
  rcases h with h | ⟨b, h1, h2, h3, h4⟩
  · exact .inl h
  · exact .inr ⟨b, h1, by omega, h3, h4⟩

/-- A program's row: what its six functions answer. -/
structure Prg (p : Int) (k0 k1 k2 k3 k4 k5 : Nat) (y : Array Value) : Prop where
  c0 : ∀ a W, (callFunc k0 a).run Try.prog W = .ok (.enter k0 a) W
  c1 : ∀ a W, (callFunc k1 a).run Try.prog W = .ok (.enter k1 a) W
  c2 : ∀ a W, (callFunc k2 a).run Try.prog W = .ok (.enter k2 a) W
  c3 : ∀ a W, (callFunc k3 a).run Try.prog W = .ok (.enter k3 a) W
  c4 : ∀ a W, (callFunc k4 a).run Try.prog W = .ok (.enter k4 a) W
  c5 : ∀ a W, (callFunc k5 a).run Try.prog W = .ok (.enter k5 a) W
  start : ∀ s v W, Calls Try.prog k0 #[.int .i64 s, .int .i64 v] W fun e W' => e = .returned (.int .i64 (startI p s v)) ∧ W = W'
  fold : ∀ a b W, bd a → bd b → Calls Try.prog k1 #[.int .i64 a, .int .i64 b] W fun e W' => e = .returned (.tuple #[.int .i64 (foldX p a b), .bool (foldB p a b)]) ∧ W = W'
  value : ∀ s st v val got sm W B, Cap B p y W → bd val → bd got →
    Calls Try.prog k2 (#[.agg #[.int .i64 s, .int .i64 st, .int .i64 v, .int .i64 val, .int .i64 got, .bool sm]] ++ y) W fun e W' =>
      e = .returned (.tuple #[.int .i64 (valX p st val got sm), .bool (valB p st val got sm)]) ∧ Below W.heap.size W W'
  sends : ∀ s st v val got sm now W,
    Calls Try.prog k3 #[.agg #[.int .i64 s, .int .i64 st, .int .i64 v, .int .i64 val, .int .i64 got, .bool sm], .int .i64 now] W fun e W' =>
      e = .returned (.bool (sendB p s st v val now)) ∧ Below W.heap.size W W'
  along : ∀ now (x : Ed) m W, bd now → bd x.2.2 → bd m →
    Calls Try.prog k4 #[.int .i64 now, .agg #[.int .i64 x.1, .int .i64 x.2.1, .int .i64 x.2.2], .int .i64 m] W fun e W' =>
      e = .returned (.tuple #[.int .i64 (alX p now x m), .bool (alB p now x m)]) ∧ Below W.heap.size W W'
  rests : ∀ st W, Calls Try.prog k5 #[.int .i64 st] W fun e W' => e = .returned (.bool (restB p st)) ∧ W = W'

/-- What programOf answers for a number of a program. -/
def OfPost (p : Int) (w : World) (e : Ending) (w' : World) : Prop :=
  Below w.heap.size w w' ∧ ∃ k0 k1 k2 k3 k4 k5 y, e = .returned (.tuple #[.agg #[.func (.func k0) #[] #[], .func (.func k1) #[] #[], .func (.func k2) #[] y, .func (.func k3) #[] #[], .func (.func k4) #[] #[], .func (.func k5) #[] #[]], .bool true]) ∧
    Prg p k0 k1 k2 k3 k4 k5 y ∧ Cap w.heap.size p y w'

theorem prg5 : Prg 5 65 66 67 68 69 70 #[] where
  c0 := Try.call65
  c1 := Try.call66
  c2 := Try.call67
  c3 := Try.call68
  c4 := Try.call69
  c5 := Try.call70
  start := fun s v W => unit_any s v W
  fold := fun a b W ha hb => add_any a b W ha.1 ha.2 hb.1 hb.2
  value := fun s st v val got sm W _ _ hv hg => by
    by_cases h : st = 0
    · subst h
      exact rank_zero s v val got sm W
    · have h1 : valX 5 st val got sm = (if quoB (cameI got sm) 85 100 = true then told (150000 + quoV (cameI got sm) 85 100) else 0) := by unfold valX; rw [if_pos rfl, if_neg h]
      have h2 : valB 5 st val got sm = (if quoB (cameI got sm) 85 100 = true then fits (150000 + quoV (cameI got sm) 85 100) else false) := by unfold valB; rw [if_pos rfl, if_neg h]
      rw [h1, h2]
      exact rank_more s st v val got sm W h hg
  sends := fun s st v val got sm now W => inRounds_any s st v val got sm now W
  along := fun now x m W h1 h2 h3 => share_any now x m W h1 h3
  rests := fun st W => behind_any st W

end Go.Proofs.Ytkmflofokgkekaa
