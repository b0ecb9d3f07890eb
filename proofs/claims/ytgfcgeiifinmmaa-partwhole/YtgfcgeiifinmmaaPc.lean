import Derived.Test.YtgfcgeiifinmmaaPa
import Derived.Test.YtgfcgeiifinmmaaPb
import Derived.Laws.EntriesVeiled
import Derived.Deep.DeepMust
import Derived.Deep.RegionHeld3
/-
  Plain mathematics of jobs and turns: values at the beginning, folds, what a vertex's value becomes, whether it sends, what goes along an edge. No condition.
-/
namespace Go.Proofs.Ytgfcgeiifinmmaa
open Go.ChangeShapes Go.WideShapes Go.ChangeAt Go.RowKit
set_option linter.unusedVariables false

/-- What is wrong with a job for a graph. -/
def badJ (N p s l q : Int) : Prop := p < 1 ∨ 5 < p ∨ s < 0 ∨ N ≤ s ∨ l < 0 ∨ 40 < l ∨ q < 1 ∨ 6 < q
instance (N p s l q : Int) : Decidable (badJ N p s l q) := inferInstanceAs (Decidable (_ ∨ _))
def jchk (N : Int) (es : List Ed) (p s l q : Int) : Int := if chk N es = 0 then (if badJ N p s l q then 1 else 0) else chk N es
theorem jchk_graph {N : Int} {es : List Ed} {p s l q : Int} (h : ¬ chk N es = 0) : jchk N es p s l q = chk N es := by unfold jchk; rw [if_neg h]
theorem jchk_bad {N : Int} {es : List Ed} {p s l q : Int} (h : chk N es = 0) (hb : badJ N p s l q) : jchk N es p s l q = 1 := by unfold jchk; rw [if_pos h, if_pos hb]
theorem jchk_good {N : Int} {es : List Ed} {p s l q : Int} (h : chk N es = 0) (hb : ¬ badJ N p s l q) : jchk N es p s l q = 0 := by unfold jchk; rw [if_pos h, if_neg hb]
theorem jchk_zero {N : Int} {es : List Ed} {p s l q : Int} (h : jchk N es p s l q = 0) : chk N es = 0 ∧ ¬ badJ N p s l q := by
  unfold jchk at h
  by_cases h1 : chk N es = 0
  · rw [if_pos h1] at h
    by_cases h2 : badJ N p s l q
    · rw [if_pos h2] at h; cases h
    · exact ⟨h1, h2⟩
  · rw [if_neg h1] at h; exact absurd h h1
/-- A number of 64 bits. -/
def bd (a : Int) : Prop := -9223372036854775808 ≤ a ∧ a ≤ 9223372036854775807
/-- A vertex's mark, as the program reckons it. -/
def markI (v : Int) : Int := (wrap64 (wrap64 (wrap64 (31 * v) * v) + 7)).tmod 1009
/-- The value at the beginning. -/
def startI (p s v : Int) : Int := if p = 2 then v else if p = 4 then markI v else if p = 5 then 1000000 else if v = s then 0 else 9223372036854775807
def lessI (a b : Int) : Int := if b < a then b else a
def greatI (a b : Int) : Int := if a < b then b else a
/-- What two numbers are folded into. -/
def foldX (p a b : Int) : Int := if p = 5 then told (a + b) else if p = 4 then greatI a b else lessI a b
def foldB (p a b : Int) : Bool := if p = 5 then fits (a + b) else true
def cameI (got : Int) (sm : Bool) : Int := if sm then got else 0
/-- The value behind a turn. -/
def valX (p st val got : Int) (sm : Bool) : Int :=
  if p = 5 then (if st = 0 then val else if quoB (cameI got sm) 85 100 = true then told (150000 + quoV (cameI got sm) 85 100) else 0)
  else if sm then foldX p val got else val
def valB (p st val got : Int) (sm : Bool) : Bool :=
  if p = 5 then (if st = 0 then true else if quoB (cameI got sm) 85 100 = true then fits (150000 + quoV (cameI got sm) 85 100) else false)
  else true
/-- Does it send? -/
def sendB (p s st v val now : Int) : Bool :=
  if p = 5 then decide (st < 10) else if p = 2 ∨ p = 4 then (now != val || st == 0) else (now != val || (st == 0 && v == s))
/-- What goes along an edge. -/
def alX (p now : Int) (e : Ed) (m : Int) : Int := if p = 1 then told (now + e.2.2) else if p = 3 then told (now + 1) else if p = 5 then quoV now 1 m else now
def alB (p now : Int) (e : Ed) (m : Int) : Bool := if p = 1 then fits (now + e.2.2) else if p = 3 then fits (now + 1) else if p = 5 then quoB now 1 m else true
/-- Does it rest? -/
def restB (p st : Int) : Bool := if p = 5 then decide (10 ≤ st) else true
theorem wrap64_bd (n : Int) : bd (wrap64 n) := by unfold wrap64 bd; omega
theorem quoV_bd (a b d : Int) : bd (quoV a b d) := by
  unfold quoV
  split
  · exact wrap64_bd _
  · exact ⟨by decide, by decide⟩
theorem cameI_bd {got : Int} {sm : Bool} (hb : bd got) : bd (cameI got sm) := by
  unfold cameI; split
  · exact hb
  · exact ⟨by decide, by decide⟩
/-- Messages: To, V. -/
abbrev Ms := Int × Int
def mAt (ms : List Ms) (k : Nat) : Ms := ms.getD k (0, 0)
/-- Messages as cells. -/
def mc (ms : List Ms) : List Value := ms.flatMap fun e => [.int .i64 e.1, .int .i64 e.2]
end Go.Proofs.Ytgfcgeiifinmmaa

/-
  Contracts of the functions that stand in a program's row: the value at the beginning, the fold, the value, whether it sends, what goes along an edge, whether it rests. No condition.
-/
namespace Go.Proofs.Ytgfcgeiifinmmaa
open Go.ChangeShapes Go.WideShapes Go.ChangeAt Go.RowKit
set_option linter.unusedVariables false

theorem below_eq {w w' : World} (h : w = w') : Below w.heap.size w w' := by subst h; exact Below.refl _ _
theorem ret_tb {a b : Int} {c d : Bool} (h : a = b) (g : c = d) : Ending.returned (.tuple #[.int .i64 a, .bool c]) = .returned (.tuple #[.int .i64 b, .bool d]) := by rw [h, g]
theorem ret_b {a b : Bool} (h : a = b) : Ending.returned (.bool a) = .returned (.bool b) := by rw [h]
theorem fromSource_any (s v : Int) (w : World) : Calls Try.prog 53 #[.int .i64 s, .int .i64 v] w fun e w' => e = .returned (.int .i64 (if v = s then 0 else 9223372036854775807)) ∧ w = w' := by
  by_cases h : v = s
  · rw [if_pos h]
    subst h
    go_enter Try.func53, Try.ntmps53
    go_wp2
    go_ret
    exact ⟨rfl, rfl⟩
  · rw [if_neg h]
    have h' : (v == s) = false := by simpa using h
    clear h
    go_enter Try.func53, Try.ntmps53
    go_wp2
    go_ret
    exact ⟨rfl, rfl⟩
theorem own_any (s v : Int) (w : World) : Calls Try.prog 59 #[.int .i64 s, .int .i64 v] w fun e w' => e = .returned (.int .i64 v) ∧ w = w' := by
  go_enter Try.func59, Try.ntmps59
  go_wp2
  go_ret
  exact ⟨rfl, rfl⟩
theorem mark_any (s v : Int) (w : World) : Calls Try.prog 63 #[.int .i64 s, .int .i64 v] w fun e w' => e = .returned (.int .i64 (markI v)) ∧ w = w' := by
  go_enter Try.func63, Try.ntmps63
  go_wp2
  go_ret
  exact ⟨rfl, rfl⟩
theorem unit_any (s v : Int) (w : World) : Calls Try.prog 65 #[.int .i64 s, .int .i64 v] w fun e w' => e = .returned (.int .i64 1000000) ∧ w = w' := by
  go_enter Try.func65, Try.ntmps65
  go_wp2
  go_ret
  exact ⟨rfl, rfl⟩
theorem less_any (a b : Int) (w : World) : Calls Try.prog 54 #[.int .i64 a, .int .i64 b] w fun e w' => e = .returned (.tuple #[.int .i64 (lessI a b), .bool true]) ∧ w = w' := by
  go_enter Try.func54, Try.ntmps54
  go_wp2
  · go_ret2
    exact ⟨ret_tb (by unfold lessI; rw [if_pos (by assumption)]) rfl, rfl⟩
  · go_ret2
    exact ⟨ret_tb (by unfold lessI; rw [if_neg (by omega)]) rfl, rfl⟩
theorem greater_any (a b : Int) (w : World) : Calls Try.prog 64 #[.int .i64 a, .int .i64 b] w fun e w' => e = .returned (.tuple #[.int .i64 (greatI a b), .bool true]) ∧ w = w' := by
  go_enter Try.func64, Try.ntmps64
  go_wp2
  · go_ret2
    exact ⟨ret_tb (by unfold greatI; rw [if_pos (by assumption)]) rfl, rfl⟩
  · go_ret2
    exact ⟨ret_tb (by unfold greatI; rw [if_neg (by omega)]) rfl, rfl⟩
/-- The value of all but Rank: the fold's, if something came. -/
theorem better_some (k : Nat) (f : Int → Int → Int) (hk : ∀ a W, (callFunc k a).run Try.prog W = .ok (.enter k a) W)
    (hf : ∀ a b W, Calls Try.prog k #[.int .i64 a, .int .i64 b] W fun e W' => e = .returned (.tuple #[.int .i64 (f a b), .bool true]) ∧ W = W')
    (b : Nat) (s st v val got : Int) (w : World) (hb : w.cell? ⟨b, 0, none⟩ = some (.func (.func k) #[] #[])) (hl : b < w.heap.size) :
    Calls Try.prog 82 #[.agg #[.int .i64 s, .int .i64 st, .int .i64 v, .int .i64 val, .int .i64 got, .bool true], .pointer (some ⟨b, 0, none⟩)] w fun e w' =>
      e = .returned (.tuple #[.int .i64 (f val got), .bool true]) ∧ Below w.heap.size w w' := by
  have HF := Lib.hid hf
  clear hf
  go_enter Try.func82, Try.ntmps82
  go_wp2_with fail
  refine (HF.out val got _).mono ?_
  rintro e w' ⟨rfl, rfl⟩
  go_wp2_with fail
  go_ret2
  exact ⟨rfl, below_alloc _ _⟩
theorem better_none (b : Nat) (s st v val got : Int) (w : World) :
    Calls Try.prog 82 #[.agg #[.int .i64 s, .int .i64 st, .int .i64 v, .int .i64 val, .int .i64 got, .bool false], .pointer (some ⟨b, 0, none⟩)] w fun e w' =>
      e = .returned (.tuple #[.int .i64 val, .bool true]) ∧ Below w.heap.size w w' := by
  go_enter Try.func82, Try.ntmps82
  go_wp2_with fail
  go_ret2
  exact ⟨rfl, below_alloc _ _⟩
theorem moved_any (s st v val got : Int) (sm : Bool) (now : Int) (w : World) :
    Calls Try.prog 60 #[.agg #[.int .i64 s, .int .i64 st, .int .i64 v, .int .i64 val, .int .i64 got, .bool sm], .int .i64 now] w fun e w' =>
      e = .returned (.bool (now != val || st == 0)) ∧ Below w.heap.size w w' := by
  by_cases h : now = val
  · subst h
    go_enter Try.func60, Try.ntmps60
    go_wp2
    all_goals
      go_ret
      exact ⟨ret_b (by simp), below_alloc _ _⟩
  · have h' : (now != val) = true := by simpa using h
    clear h
    have HH := Lib.hid h'
    go_enter Try.func60, Try.ntmps60
    go_wp2
    all_goals
      go_ret
      exact ⟨ret_b (by simp [HH.out]), below_alloc _ _⟩
theorem movedS_any (s st v val got : Int) (sm : Bool) (now : Int) (w : World) :
    Calls Try.prog 56 #[.agg #[.int .i64 s, .int .i64 st, .int .i64 v, .int .i64 val, .int .i64 got, .bool sm], .int .i64 now] w fun e w' =>
      e = .returned (.bool (now != val || (st == 0 && v == s))) ∧ Below w.heap.size w w' := by
  by_cases h : now = val
  · subst h
    by_cases h0 : st = 0
    · subst h0
      go_enter Try.func56, Try.ntmps56
      go_wp2
      go_ret
      exact ⟨ret_b (by simp), below_alloc _ _⟩
    · have h0' : (st == 0) = false := by simpa using h0
      clear h0
      have HH := Lib.hid h0'
      go_enter Try.func56, Try.ntmps56
      go_wp2
      go_ret
      exact ⟨ret_b (by simp [HH.out]), below_alloc _ _⟩
  · have h' : (now != val) = true := by simpa using h
    clear h
    have HH := Lib.hid h'
    go_enter Try.func56, Try.ntmps56
    go_wp2
    go_ret
    exact ⟨ret_b (by simp [HH.out]), below_alloc _ _⟩
theorem inRounds_any (s st v val got : Int) (sm : Bool) (now : Int) (w : World) :
    Calls Try.prog 68 #[.agg #[.int .i64 s, .int .i64 st, .int .i64 v, .int .i64 val, .int .i64 got, .bool sm], .int .i64 now] w fun e w' =>
      e = .returned (.bool (decide (st < 10))) ∧ Below w.heap.size w w' := by
  go_enter Try.func68, Try.ntmps68
  go_wp2
  go_ret
  exact ⟨rfl, below_alloc _ _⟩
theorem always_any (st : Int) (w : World) : Calls Try.prog 58 #[.int .i64 st] w fun e w' => e = .returned (.bool true) ∧ w = w' := by
  go_enter Try.func58, Try.ntmps58
  go_wp2
  go_ret
  exact ⟨rfl, rfl⟩
theorem behind_any (st : Int) (w : World) : Calls Try.prog 70 #[.int .i64 st] w fun e w' => e = .returned (.bool (decide (10 ≤ st))) ∧ w = w' := by
  go_enter Try.func70, Try.ntmps70
  go_wp2
  go_ret
  exact ⟨rfl, rfl⟩
theorem weight_any (now : Int) (x : Ed) (m : Int) (w : World) (h1 : bd now) (h2 : bd x.2.2) :
    Calls Try.prog 57 #[.int .i64 now, .agg #[.int .i64 x.1, .int .i64 x.2.1, .int .i64 x.2.2], .int .i64 m] w fun e w' =>
      e = .returned (.tuple #[.int .i64 (told (now + x.2.2)), .bool (fits (now + x.2.2))]) ∧ Below w.heap.size w w' := by
  go_enter Try.func57, Try.ntmps57
  go_wp2_with fail
  refine (add_any now x.2.2 _ h1.1 h1.2 h2.1 h2.2).mono ?_
  rintro e w' ⟨rfl, rfl⟩
  go_wp2_with fail
  go_ret2
  exact ⟨rfl, below_alloc _ _⟩
theorem one_any (now : Int) (x : Ed) (m : Int) (w : World) (h1 : bd now) :
    Calls Try.prog 62 #[.int .i64 now, .agg #[.int .i64 x.1, .int .i64 x.2.1, .int .i64 x.2.2], .int .i64 m] w fun e w' =>
      e = .returned (.tuple #[.int .i64 (told (now + 1)), .bool (fits (now + 1))]) ∧ Below w.heap.size w w' := by
  go_enter Try.func62, Try.ntmps62
  go_wp2_with fail
  refine (add_any now 1 _ h1.1 h1.2 (by decide) (by decide)).mono ?_
  rintro e w' ⟨rfl, rfl⟩
  go_wp2_with fail
  go_ret2
  exact ⟨rfl, below_alloc _ _⟩
theorem asIs_any (now : Int) (x : Ed) (m : Int) (w : World) :
    Calls Try.prog 61 #[.int .i64 now, .agg #[.int .i64 x.1, .int .i64 x.2.1, .int .i64 x.2.2], .int .i64 m] w fun e w' =>
      e = .returned (.tuple #[.int .i64 now, .bool true]) ∧ Below w.heap.size w w' := by
  go_enter Try.func61, Try.ntmps61
  go_wp2_with fail
  go_ret2
  exact ⟨rfl, below_alloc _ _⟩
theorem share_any (now : Int) (x : Ed) (m : Int) (w : World) (h1 : bd now) (h2 : bd m) :
    Calls Try.prog 69 #[.int .i64 now, .agg #[.int .i64 x.1, .int .i64 x.2.1, .int .i64 x.2.2], .int .i64 m] w fun e w' =>
      e = .returned (.tuple #[.int .i64 (quoV now 1 m), .bool (quoB now 1 m)]) ∧ Below w.heap.size w w' := by
  go_enter Try.func69, Try.ntmps69
  go_wp2_with fail
  refine (ratio_any now 1 m _ h1.1 h1.2 (by decide) (by decide) h2.1 h2.2).mono ?_
  rintro e w1 ⟨rfl, G1⟩
  have hb := (below_alloc w _).trans (G1.mono (by simp))
  have HB := Lib.hid hb
  clear G1 hb
  go_wp2_with fail
  go_ret2
  exact ⟨rfl, HB.out⟩
theorem rank_zero (s v val got : Int) (sm : Bool) (w : World) :
    Calls Try.prog 67 #[.agg #[.int .i64 s, .int .i64 0, .int .i64 v, .int .i64 val, .int .i64 got, .bool sm]] w fun e w' =>
      e = .returned (.tuple #[.int .i64 val, .bool true]) ∧ Below w.heap.size w w' := by
  go_enter Try.func67, Try.ntmps67
  go_wp2_with fail
  go_ret2
  exact ⟨rfl, below_alloc _ _⟩
theorem rank_more (s st v val got : Int) (sm : Bool) (w : World) (h0 : ¬ st = 0) (hg : bd got) :
    Calls Try.prog 67 #[.agg #[.int .i64 s, .int .i64 st, .int .i64 v, .int .i64 val, .int .i64 got, .bool sm]] w fun e w' =>
      e = .returned (.tuple #[.int .i64 (if quoB (cameI got sm) 85 100 = true then told (150000 + quoV (cameI got sm) 85 100) else 0), .bool (if quoB (cameI got sm) 85 100 = true then fits (150000 + quoV (cameI got sm) 85 100) else false)]) ∧ Below w.heap.size w w' := by
  have h0' : (st == 0) = false := by simpa using h0
  clear h0
  have HB := Lib.hid (cameI_bd (sm := sm) hg)
  have HQ := Lib.hid (quoV_bd (cameI got sm) 85 100)
  clear hg
  cases sm with
  | true =>
    have e1 : cameI got true = got := rfl
    rw [e1] at HB HQ ⊢
    clear e1
    by_cases hq : quoB got 85 100 = true
    · rw [if_pos hq, if_pos hq]
      go_enter Try.func67, Try.ntmps67
      go_wp2_with fail
      refine (ratio_any got 85 100 _ HB.out.1 HB.out.2 (by decide) (by decide) (by decide) (by decide)).mono ?_
      rintro e w1 ⟨rfl, G1⟩
      have H1 := Lib.hid ((below_alloc w _).trans (G1.mono (by simp)))
      clear G1
      go_wp2_with fail
      refine (add_any 150000 (quoV got 85 100) _ (by decide) (by decide) HQ.out.1 HQ.out.2).mono ?_
      rintro e w' ⟨rfl, rfl⟩
      go_wp2_with fail
      go_ret2
      exact ⟨rfl, H1.out⟩
    · rw [if_neg hq, if_neg hq]
      have hq' : quoB got 85 100 = false := by simpa using hq
      clear hq
      go_enter Try.func67, Try.ntmps67
      go_wp2_with fail
      refine (ratio_any got 85 100 _ HB.out.1 HB.out.2 (by decide) (by decide) (by decide) (by decide)).mono ?_
      rintro e w1 ⟨rfl, G1⟩
      have H1 := Lib.hid ((below_alloc w _).trans (G1.mono (by simp)))
      clear G1
      go_wp2_with fail
      go_ret2
      exact ⟨rfl, H1.out⟩
  | false =>
    have e1 : cameI got false = 0 := rfl
    rw [e1] at HB HQ ⊢
    clear e1
    by_cases hq : quoB 0 85 100 = true
    · rw [if_pos hq, if_pos hq]
      go_enter Try.func67, Try.ntmps67
      go_wp2_with fail
      refine (ratio_any 0 85 100 _ HB.out.1 HB.out.2 (by decide) (by decide) (by decide) (by decide)).mono ?_
      rintro e w1 ⟨rfl, G1⟩
      have H1 := Lib.hid ((below_alloc w _).trans (G1.mono (by simp)))
      clear G1
      go_wp2_with fail
      refine (add_any 150000 (quoV 0 85 100) _ (by decide) (by decide) HQ.out.1 HQ.out.2).mono ?_
      rintro e w' ⟨rfl, rfl⟩
      go_wp2_with fail
      go_ret2
      exact ⟨rfl, H1.out⟩
    · exact absurd (by kernel_rfl) hq
/-- What the program's value function has captured lies in memory, at block B or behind it. -/
def Cap (B : Nat) (p : Int) (y : Array Value) (W : World) : Prop :=
  p = 5 ∨ ∃ b, y = #[.pointer (some ⟨b, 0, none⟩)] ∧ B ≤ b ∧ b < W.heap.size ∧ W.cell? ⟨b, 0, none⟩ = some (.func (.func (if p = 4 then 64 else 54)) #[] #[])
theorem Cap.next {B : Nat} {p : Int} {y : Array Value} {W W' : World} (h : Cap B p y W) (hb : Below W.heap.size W W') : Cap B p y W' := by
  rcases h with h | ⟨b, h1, h2, h3, h4⟩
  · exact .inl h
  · exact .inr ⟨b, h1, h2, Nat.lt_of_lt_of_le h3 hb.size, (hb.cell (p := ⟨b, 0, none⟩) h3).trans h4⟩
theorem Cap.set {B : Nat} {p : Int} {y : Array Value} {W : World} (h : Cap B p y W) {a : Addr} (ha : a.block < B) (v : Value) : Cap B p y (W.setCell a v) := by
  rcases h with h | ⟨b, h1, h2, h3, h4⟩
  · exact .inl h
  · exact .inr ⟨b, h1, h2, by simpa [World.setCell] using h3, (World.cell?_setCell_other _ _ _ _ (by intro e; rw [e] at ha; simp at ha; omega)).trans h4⟩
theorem Cap.low {B B' : Nat} {p : Int} {y : Array Value} {W : World} (h : Cap B p y W) (hB : B' ≤ B) : Cap B' p y W := by
  rcases h with h | ⟨b, h1, h2, h3, h4⟩
  · exact .inl h
  · exact .inr ⟨b, h1, by omega, h3, h4⟩
/-- A program's row: what its six functions answer. -/
structure Prg (p : Int) (k0 k1 k2 k3 k4 k5 : Nat) (y : Array Value) : Prop where
  c0 : ∀ a W, (callFunc k0 a).run Try.prog W = .ok (.enter k0 a) W
  c1 : ∀ a W, (callFunc k1 a).run Try.prog W = .ok (.enter k1 a) W
  c2 : ∀ a W, (callFunc k2 a).run Try.prog W = .ok (.enter k2 a) W
  c3 : ∀ a W, (callFunc k3 a).run Try.prog W = .ok (.enter k3 a) W
  c4 : ∀ a W, (callFunc k4 a).run Try.prog W = .ok (.enter k4 a) W
  c5 : ∀ a W, (callFunc k5 a).run Try.prog W = .ok (.enter k5 a) W
  start : ∀ s v W, Calls Try.prog k0 #[.int .i64 s, .int .i64 v] W fun e W' => e = .returned (.int .i64 (startI p s v)) ∧ W = W'
  fold : ∀ a b W, bd a → bd b → Calls Try.prog k1 #[.int .i64 a, .int .i64 b] W fun e W' => e = .returned (.tuple #[.int .i64 (foldX p a b), .bool (foldB p a b)]) ∧ W = W'
  value : ∀ s st v val got sm W B, Cap B p y W → bd val → bd got →
    Calls Try.prog k2 (#[.agg #[.int .i64 s, .int .i64 st, .int .i64 v, .int .i64 val, .int .i64 got, .bool sm]] ++ y) W fun e W' =>
      e = .returned (.tuple #[.int .i64 (valX p st val got sm), .bool (valB p st val got sm)]) ∧ Below W.heap.size W W'
  sends : ∀ s st v val got sm now W,
    Calls Try.prog k3 #[.agg #[.int .i64 s, .int .i64 st, .int .i64 v, .int .i64 val, .int .i64 got, .bool sm], .int .i64 now] W fun e W' =>
      e = .returned (.bool (sendB p s st v val now)) ∧ Below W.heap.size W W'
  along : ∀ now (x : Ed) m W, bd now → bd x.2.2 → bd m →
    Calls Try.prog k4 #[.int .i64 now, .agg #[.int .i64 x.1, .int .i64 x.2.1, .int .i64 x.2.2], .int .i64 m] W fun e W' =>
      e = .returned (.tuple #[.int .i64 (alX p now x m), .bool (alB p now x m)]) ∧ Below W.heap.size W W'
  rests : ∀ st W, Calls Try.prog k5 #[.int .i64 st] W fun e W' => e = .returned (.bool (restB p st)) ∧ W = W'
/-- What programOf answers for a number of a program. -/
def OfPost (p : Int) (w : World) (e : Ending) (w' : World) : Prop :=
  Below w.heap.size w w' ∧ ∃ k0 k1 k2 k3 k4 k5 y, e = .returned (.tuple #[.agg #[.func (.func k0) #[] #[], .func (.func k1) #[] #[], .func (.func k2) #[] y, .func (.func k3) #[] #[], .func (.func k4) #[] #[], .func (.func k5) #[] #[]], .bool true]) ∧
    Prg p k0 k1 k2 k3 k4 k5 y ∧ Cap w.heap.size p y w'
theorem prg5 : Prg 5 65 66 67 68 69 70 #[] where
  c0 := Try.call65
  c1 := Try.call66
  c2 := Try.call67
  c3 := Try.call68
  c4 := Try.call69
  c5 := Try.call70
  start := fun s v W => unit_any s v W
  fold := fun a b W ha hb => add_any a b W ha.1 ha.2 hb.1 hb.2
  value := fun s st v val got sm W _ _ hv hg => by
    by_cases h : st = 0
    · subst h
      exact rank_zero s v val got sm W
    · have h1 : valX 5 st val got sm = (if quoB (cameI got sm) 85 100 = true then told (150000 + quoV (cameI got sm) 85 100) else 0) := by unfold valX; rw [if_pos rfl, if_neg h]
      have h2 : valB 5 st val got sm = (if quoB (cameI got sm) 85 100 = true then fits (150000 + quoV (cameI got sm) 85 100) else false) := by unfold valB; rw [if_pos rfl, if_neg h]
      rw [h1, h2]
      exact rank_more s st v val got sm W h hg
  sends := fun s st v val got sm now W => inRounds_any s st v val got sm now W
  along := fun now x m W h1 h2 h3 => share_any now x m W h1 h3
  rests := fun st W => behind_any st W
end Go.Proofs.Ytgfcgeiifinmmaa

/-
  Contracts of programOf: for a number of a program its row, else none. No condition.
-/
namespace Go.Proofs.Ytgfcgeiifinmmaa
open Go.ChangeShapes Go.WideShapes Go.ChangeAt Go.RowKit
set_option linter.unusedVariables false

theorem better_less (p : Int) (hp : p = 1 ∨ p = 2 ∨ p = 3) (B b : Nat) (s st v val got : Int) (sm : Bool) (W : World) (hC : Cap B p #[.pointer (some ⟨b, 0, none⟩)] W) :
    Calls Try.prog 82 #[.agg #[.int .i64 s, .int .i64 st, .int .i64 v, .int .i64 val, .int .i64 got, .bool sm], .pointer (some ⟨b, 0, none⟩)] W fun e W' =>
      e = .returned (.tuple #[.int .i64 (valX p st val got sm), .bool (valB p st val got sm)]) ∧ Below W.heap.size W W' := by
  have h5 : ¬ p = 5 := by omega
  have h4 : ¬ p = 4 := by omega
  rcases hC with hC | ⟨b', hb', _, hl, hc⟩
  · exact absurd hC h5
  have e0 : b = b' := by injection hb' with e; injection e with e _; injection e with e; injection e with e; injection e with e
  subst e0
  rw [if_neg h4] at hc
  cases sm with
  | true =>
    have e1 : valX p st val got true = lessI val got := by unfold valX foldX; rw [if_neg h5, if_pos rfl, if_neg h5, if_neg h4]
    have e2 : valB p st val got true = true := by unfold valB; rw [if_neg h5]
    rw [e1, e2]
    exact better_some 54 lessI Try.call54 less_any b s st v val got W hc hl
  | false =>
    have e1 : valX p st val got false = val := by unfold valX; rw [if_neg h5]; rfl
    have e2 : valB p st val got false = true := by unfold valB; rw [if_neg h5]
    rw [e1, e2]
    exact better_none b s st v val got W
theorem better_great (B b : Nat) (s st v val got : Int) (sm : Bool) (W : World) (hC : Cap B 4 #[.pointer (some ⟨b, 0, none⟩)] W) :
    Calls Try.prog 82 #[.agg #[.int .i64 s, .int .i64 st, .int .i64 v, .int .i64 val, .int .i64 got, .bool sm], .pointer (some ⟨b, 0, none⟩)] W fun e W' =>
      e = .returned (.tuple #[.int .i64 (valX 4 st val got sm), .bool (valB 4 st val got sm)]) ∧ Below W.heap.size W W' := by
  rcases hC with hC | ⟨b', hb', _, hl, hc⟩
  · cases hC
  have e0 : b = b' := by injection hb' with e; injection e with e _; injection e with e; injection e with e; injection e with e
  subst e0
  rw [if_pos rfl] at hc
  cases sm with
  | true => exact better_some 64 greatI Try.call64 greater_any b s st v val got W hc hl
  | false => exact better_none b s st v val got W
theorem prg1 (b : Nat) : Prg 1 53 54 82 56 57 58 #[.pointer (some ⟨b, 0, none⟩)] where
  c0 := Try.call53
  c1 := Try.call54
  c2 := Try.call82
  c3 := Try.call56
  c4 := Try.call57
  c5 := Try.call58
  start := fun s v W => fromSource_any s v W
  fold := fun a b W _ _ => less_any a b W
  value := fun s st v val got sm W B hC hv hg => better_less 1 (.inl rfl) B b s st v val got sm W hC
  sends := fun s st v val got sm now W => movedS_any s st v val got sm now W
  along := fun now x m W h1 h2 h3 => weight_any now x m W h1 h2
  rests := fun st W => always_any st W
theorem prg2 (b : Nat) : Prg 2 59 54 82 60 61 58 #[.pointer (some ⟨b, 0, none⟩)] where
  c0 := Try.call59
  c1 := Try.call54
  c2 := Try.call82
  c3 := Try.call60
  c4 := Try.call61
  c5 := Try.call58
  start := fun s v W => own_any s v W
  fold := fun a b W _ _ => less_any a b W
  value := fun s st v val got sm W B hC hv hg => better_less 2 (.inr (.inl rfl)) B b s st v val got sm W hC
  sends := fun s st v val got sm now W => moved_any s st v val got sm now W
  along := fun now x m W h1 h2 h3 => asIs_any now x m W
  rests := fun st W => always_any st W
theorem prg3 (b : Nat) : Prg 3 53 54 82 56 62 58 #[.pointer (some ⟨b, 0, none⟩)] where
  c0 := Try.call53
  c1 := Try.call54
  c2 := Try.call82
  c3 := Try.call56
  c4 := Try.call62
  c5 := Try.call58
  start := fun s v W => fromSource_any s v W
  fold := fun a b W _ _ => less_any a b W
  value := fun s st v val got sm W B hC hv hg => better_less 3 (.inr (.inr rfl)) B b s st v val got sm W hC
  sends := fun s st v val got sm now W => movedS_any s st v val got sm now W
  along := fun now x m W h1 h2 h3 => one_any now x m W h1
  rests := fun st W => always_any st W
theorem prg4 (b : Nat) : Prg 4 63 64 82 60 61 58 #[.pointer (some ⟨b, 0, none⟩)] where
  c0 := Try.call63
  c1 := Try.call64
  c2 := Try.call82
  c3 := Try.call60
  c4 := Try.call61
  c5 := Try.call58
  start := fun s v W => mark_any s v W
  fold := fun a b W _ _ => greater_any a b W
  value := fun s st v val got sm W B hC hv hg => better_great B b s st v val got sm W hC
  sends := fun s st v val got sm now W => moved_any s st v val got sm now W
  along := fun now x m W h1 h2 h3 => asIs_any now x m W
  rests := fun st W => always_any st W
theorem of1 (w : World) : Calls Try.prog 44 #[.int .i64 1] w (OfPost 1 w) := by
  go_enter Try.func44, Try.ntmps44
  go_wp2
  refine bodyPost_ret (v := .tuple #[.agg #[.func (.func 53) #[] #[], .func (.func 54) #[] #[], .func (.func 82) #[] #[.pointer (some ⟨w.heap.size + 1, 0, none⟩)], .func (.func 56) #[] #[], .func (.func 57) #[] #[], .func (.func 58) #[] #[]], .bool true]) (by simp [results, Try.results44, go_sem]) rfl ?_
  exact ⟨((Below.refl _ _).alloc (Nat.le_refl _) _).alloc (by simp) _, _, _, _, _, _, _, _, rfl, prg1 _, .inr ⟨_, rfl, by simp, by simp, by simp [go_sem]⟩⟩
theorem of2 (w : World) : Calls Try.prog 44 #[.int .i64 2] w (OfPost 2 w) := by
  go_enter Try.func44, Try.ntmps44
  go_wp2
  refine bodyPost_ret (v := .tuple #[.agg #[.func (.func 59) #[] #[], .func (.func 54) #[] #[], .func (.func 82) #[] #[.pointer (some ⟨w.heap.size + 1, 0, none⟩)], .func (.func 60) #[] #[], .func (.func 61) #[] #[], .func (.func 58) #[] #[]], .bool true]) (by simp [results, Try.results44, go_sem]) rfl ?_
  exact ⟨((Below.refl _ _).alloc (Nat.le_refl _) _).alloc (by simp) _, _, _, _, _, _, _, _, rfl, prg2 _, .inr ⟨_, rfl, by simp, by simp, by simp [go_sem]⟩⟩
theorem of3 (w : World) : Calls Try.prog 44 #[.int .i64 3] w (OfPost 3 w) := by
  go_enter Try.func44, Try.ntmps44
  go_wp2
  refine bodyPost_ret (v := .tuple #[.agg #[.func (.func 53) #[] #[], .func (.func 54) #[] #[], .func (.func 82) #[] #[.pointer (some ⟨w.heap.size + 1, 0, none⟩)], .func (.func 56) #[] #[], .func (.func 62) #[] #[], .func (.func 58) #[] #[]], .bool true]) (by simp [results, Try.results44, go_sem]) rfl ?_
  exact ⟨((Below.refl _ _).alloc (Nat.le_refl _) _).alloc (by simp) _, _, _, _, _, _, _, _, rfl, prg3 _, .inr ⟨_, rfl, by simp, by simp, by simp [go_sem]⟩⟩
theorem of4 (w : World) : Calls Try.prog 44 #[.int .i64 4] w (OfPost 4 w) := by
  go_enter Try.func44, Try.ntmps44
  go_wp2
  refine bodyPost_ret (v := .tuple #[.agg #[.func (.func 63) #[] #[], .func (.func 64) #[] #[], .func (.func 82) #[] #[.pointer (some ⟨w.heap.size + 1, 0, none⟩)], .func (.func 60) #[] #[], .func (.func 61) #[] #[], .func (.func 58) #[] #[]], .bool true]) (by simp [results, Try.results44, go_sem]) rfl ?_
  exact ⟨((Below.refl _ _).alloc (Nat.le_refl _) _).alloc (by simp) _, _, _, _, _, _, _, _, rfl, prg4 _, .inr ⟨_, rfl, by simp, by simp, by simp [go_sem]⟩⟩
theorem of5 (w : World) : Calls Try.prog 44 #[.int .i64 5] w (OfPost 5 w) := by
  go_enter Try.func44, Try.ntmps44
  go_wp2
  refine bodyPost_ret (v := .tuple #[.agg #[.func (.func 65) #[] #[], .func (.func 66) #[] #[], .func (.func 67) #[] #[], .func (.func 68) #[] #[], .func (.func 69) #[] #[], .func (.func 70) #[] #[]], .bool true]) (by simp [results, Try.results44, go_sem]) rfl ?_
  exact ⟨below_alloc _ _, _, _, _, _, _, _, _, rfl, prg5, .inl rfl⟩
theorem of_yes (p : Int) (w : World) (h1 : 1 ≤ p) (h2 : p ≤ 5) : Calls Try.prog 44 #[.int .i64 p] w (OfPost p w) := by
  obtain rfl | rfl | rfl | rfl | rfl : p = 1 ∨ p = 2 ∨ p = 3 ∨ p = 4 ∨ p = 5 := by omega
  · exact of1 w
  · exact of2 w
  · exact of3 w
  · exact of4 w
  · exact of5 w
theorem of_no (p : Int) (w : World) (h : p < 1 ∨ 5 < p) : Calls Try.prog 44 #[.int .i64 p] w fun e w' =>
    e = .returned (.tuple #[.agg #[.nilFunc, .nilFunc, .nilFunc, .nilFunc, .nilFunc, .nilFunc], .bool false]) ∧ Below w.heap.size w w' := by
  have h1 : (p == 1) = false := by simp; omega
  have h2 : (p == 2) = false := by simp; omega
  have h3 : (p == 3) = false := by simp; omega
  have h4 : (p == 4) = false := by simp; omega
  have h5 : (p == 5) = false := by simp; omega
  clear h
  go_enter Try.func44, Try.ntmps44
  go_wp2
  refine bodyPost_ret (v := .tuple #[.agg #[.nilFunc, .nilFunc, .nilFunc, .nilFunc, .nilFunc, .nilFunc], .bool false]) (by simp [results, Try.results44, go_sem]) rfl ?_
  exact ⟨rfl, below_alloc _ _⟩
end Go.Proofs.Ytgfcgeiifinmmaa

/-
  Contracts of isVertex, Check, the document's own Check, programFor. No condition.
-/
namespace Go.Proofs.Ytgfcgeiifinmmaa
open Go.ChangeShapes Go.WideShapes Go.ChangeAt Go.RowKit
set_option linter.unusedVariables false

theorem isV_any (N : Int) (A : Option Addr) (n c : Nat) (v : Int) (w : World) (b : Bool) (hb : b = decide (0 ≤ v ∧ v < N)) :
    Calls Try.prog 45 #[.agg #[.int .i64 N, .slice A n c], .int .i64 v] w fun e w' => e = .returned (.bool b) ∧ Below w.heap.size w w' := by
  by_cases h : 0 ≤ v
  · obtain rfl : b = decide (v < N) := by rw [hb]; simp [h]
    clear hb
    go_enter Try.func45, Try.ntmps45
    go_wp2
    go_ret
    exact ⟨rfl, below_alloc _ _⟩
  · obtain rfl : b = false := by rw [hb]; simp; omega
    clear hb
    go_enter Try.func45, Try.ntmps45
    go_wp2
    go_ret
    exact ⟨rfl, below_alloc _ _⟩
/-- The graph and the job stand boxed in the first two blocks behind w; all that lay in w lies there still. -/
structure Bx (w : World) (N : Int) (A : Option Addr) (n c : Nat) (p s l q : Int) (W : World) : Prop where
  z : w.heap.size + 2 ≤ W.heap.size
  g0 : W.cell? ⟨w.heap.size, 0, none⟩ = some (.int .i64 N)
  g1 : W.cell? ⟨w.heap.size, 1, none⟩ = some (.slice A n c)
  j0 : W.cell? ⟨w.heap.size + 1, 0, none⟩ = some (.int .i64 p)
  j1 : W.cell? ⟨w.heap.size + 1, 1, none⟩ = some (.int .i64 s)
  j2 : W.cell? ⟨w.heap.size + 1, 2, none⟩ = some (.int .i64 l)
  j3 : W.cell? ⟨w.heap.size + 1, 3, none⟩ = some (.int .i64 q)
  bl : Below w.heap.size w W
theorem Bx.init (w : World) (N : Int) (A : Option Addr) (n c : Nat) (p s l q : Int) : Bx w N A n c p s l q ((w.alloc (.cells #[.int .i64 N, .slice A n c] 24)).alloc (.cells #[.int .i64 p, .int .i64 s, .int .i64 l, .int .i64 q] 26)) :=
  ⟨by simp, by simp [go_sem], by simp [go_sem], by simp [go_sem], by simp [go_sem], by simp [go_sem], by simp [go_sem], ((Below.refl _ _).alloc (Nat.le_refl _) _).alloc (by simp) _⟩
theorem Bx.next {w : World} {N : Int} {A : Option Addr} {n c : Nat} {p s l q : Int} {W W' : World} (h : Bx w N A n c p s l q W) (hb : Below W.heap.size W W') : Bx w N A n c p s l q W' :=
  have k : ∀ b o, b < w.heap.size + 2 → W'.cell? ⟨b, o, none⟩ = W.cell? ⟨b, o, none⟩ := fun b o hl => hb.cell (p := ⟨b, o, none⟩) (Nat.lt_of_lt_of_le hl h.z)
  ⟨Nat.le_trans h.z hb.size, (k _ _ (by omega)).trans h.g0, (k _ _ (by omega)).trans h.g1, (k _ _ (by omega)).trans h.j0, (k _ _ (by omega)).trans h.j1, (k _ _ (by omega)).trans h.j2, (k _ _ (by omega)).trans h.j3,
    h.bl.trans (hb.mono (by have := h.z; omega))⟩
theorem Bx.alloc {w : World} {N : Int} {A : Option Addr} {n c : Nat} {p s l q : Int} {W : World} (h : Bx w N A n c p s l q W) (o : Obj) : Bx w N A n c p s l q (W.alloc o) := h.next (below_alloc W o)
theorem badJ_not {N p s l q : Int} (h : ¬ badJ N p s l q) : (1 ≤ p ∧ p ≤ 5) ∧ (0 ≤ s ∧ s < N) ∧ ¬ l < 0 ∧ ¬ 40 < l ∧ ¬ q < 1 ∧ ¬ 6 < q := by unfold badJ at h; omega
set_option maxHeartbeats 1000000 in
theorem jcheck_any (N : Int) (A : Option Addr) (n c : Nat) (es : List Ed) (p s l q : Int) (w : World) (hA : Lies w w.heap.size 3 A n (ec es)) (hnc : n ≤ c) (hn : n ≤ maxLen) :
    Calls Try.prog 29 #[.agg #[.int .i64 N, .slice A n c], .agg #[.int .i64 p, .int .i64 s, .int .i64 l, .int .i64 q]] w fun e w' => e = .returned (.int .i64 (jchk N es p s l q)) ∧ Below w.heap.size w w' := by
  have hbx := Bx.init w N A n c p s l q
  have hA1 := hA.next hbx.bl
  by_cases hg : chk N es = 0
  · by_cases hp : p < 1 ∨ 5 < p
    · have HR := Lib.hid (jchk_bad hg (show badJ N p s l q by unfold badJ; omega))
      have HG := Lib.hid hg
      have HP := Lib.hid hp
      have HBX := Lib.hid hbx
      clear hg hp hbx
      go_enter Try.func29, Try.ntmps29
      go_wp2_with fail
      refine (check_any N A n c es _ hA1 hnc hn).mono ?_
      rintro e w1 ⟨rfl, hb1⟩
      rw [HG.out]
      have hx1 := HBX.out.next hb1
      obtain ⟨z1, g0, g1, j0, j1, j2, j3, bl1⟩ := id hx1
      clear hb1 hA1 HBX
      go_wp2_with fail
      refine (of_no p _ HP.out).mono ?_
      rintro e w2 ⟨rfl, hb2⟩
      have H2 := Lib.hid ((hx1.next hb2).alloc (.cells #[.nilFunc, .nilFunc, .nilFunc, .nilFunc, .nilFunc, .nilFunc] 82)).bl
      clear hb2 hx1
      go_wp2_with fail
      go_ret
      exact ⟨ret_int HR.out.symm, H2.out⟩
    · have HP := Lib.hid (show 1 ≤ p ∧ p ≤ 5 by omega)
      have HG := Lib.hid hg
      have HBX := Lib.hid hbx
      by_cases hs : 0 ≤ s ∧ s < N
      · have HS := Lib.hid (show true = decide (0 ≤ s ∧ s < N) by simpa using hs)
        have HR := Lib.hid (show jchk N es p s l q = if l < 0 ∨ 40 < l ∨ q < 1 ∨ 6 < q then 1 else 0 by
          by_cases hb : badJ N p s l q
          · rw [jchk_bad hg hb, if_pos (by unfold badJ at hb; omega)]
          · rw [jchk_good hg hb, if_neg (by unfold badJ at hb; omega)])
        clear hg hp hs hbx
        go_enter Try.func29, Try.ntmps29
        go_wp2_with fail
        refine (check_any N A n c es _ hA1 hnc hn).mono ?_
        rintro e w1 ⟨rfl, hb1⟩
        rw [HG.out]
        have hx1 := HBX.out.next hb1
        obtain ⟨z1, g0, g1, j0, j1, j2, j3, bl1⟩ := id hx1
        clear hb1 hA1 HBX
        go_wp2_with fail
        refine (of_yes p _ HP.out.1 HP.out.2).mono ?_
        rintro e w2 ⟨hb2, k0, k1, k2, k3, k4, k5, y, rfl, _⟩
        have H2 := Lib.hid ((hx1.next hb2).alloc (.cells #[.func (.func k0) #[] #[], .func (.func k1) #[] #[], .func (.func k2) #[] y, .func (.func k3) #[] #[], .func (.func k4) #[] #[], .func (.func k5) #[] #[]] 82))
        clear z1 g0 g1 j0 j1 j2 j3 bl1
        obtain ⟨z1, g0, g1, j0, j1, j2, j3, bl1⟩ := H2.out
        clear hb2 hx1
        go_wp2_with fail
        refine (isV_any N A n c s _ true HS.out).mono ?_
        rintro e w3 ⟨rfl, hb3⟩
        have hx3 := H2.out.next hb3
        clear z1 g0 g1 j0 j1 j2 j3 bl1 H2 hb3
        obtain ⟨z1, g0, g1, j0, j1, j2, j3, bl1⟩ := hx3
        have HB3 := Lib.hid bl1
        clear bl1
        by_cases q1 : l < 0
        · go_wp2_with fail
          go_ret
          exact ⟨ret_int (by rw [HR.out, if_pos (by omega)]), HB3.out⟩
        · by_cases q2 : 40 < l
          · go_wp2_with fail
            go_ret
            exact ⟨ret_int (by rw [HR.out, if_pos (by omega)]), HB3.out⟩
          · by_cases q3 : q < 1
            · go_wp2_with fail
              go_ret
              exact ⟨ret_int (by rw [HR.out, if_pos (by omega)]), HB3.out⟩
            · by_cases q4 : 6 < q
              · go_wp2_with fail
                go_ret
                exact ⟨ret_int (by rw [HR.out, if_pos (by omega)]), HB3.out⟩
              · go_wp2_with fail
                go_ret
                exact ⟨ret_int (by rw [HR.out, if_neg (by omega)]), HB3.out⟩
      · have HS := Lib.hid (show false = decide (0 ≤ s ∧ s < N) by simpa using hs)
        have HR := Lib.hid (jchk_bad hg (show badJ N p s l q by unfold badJ; omega))
        clear hg hp hs hbx
        go_enter Try.func29, Try.ntmps29
        go_wp2_with fail
        refine (check_any N A n c es _ hA1 hnc hn).mono ?_
        rintro e w1 ⟨rfl, hb1⟩
        rw [HG.out]
        have hx1 := HBX.out.next hb1
        obtain ⟨z1, g0, g1, j0, j1, j2, j3, bl1⟩ := id hx1
        clear hb1 hA1 HBX
        go_wp2_with fail
        refine (of_yes p _ HP.out.1 HP.out.2).mono ?_
        rintro e w2 ⟨hb2, k0, k1, k2, k3, k4, k5, y, rfl, _⟩
        have H2 := Lib.hid ((hx1.next hb2).alloc (.cells #[.func (.func k0) #[] #[], .func (.func k1) #[] #[], .func (.func k2) #[] y, .func (.func k3) #[] #[], .func (.func k4) #[] #[], .func (.func k5) #[] #[]] 82))
        clear z1 g0 g1 j0 j1 j2 j3 bl1
        obtain ⟨z1, g0, g1, j0, j1, j2, j3, bl1⟩ := H2.out
        clear hb2 hx1
        go_wp2_with fail
        refine (isV_any N A n c s _ false HS.out).mono ?_
        rintro e w3 ⟨rfl, hb3⟩
        have HB3 := Lib.hid (H2.out.next hb3).bl
        clear z1 g0 g1 j0 j1 j2 j3 bl1 H2 hb3
        go_wp2_with fail
        go_ret
        exact ⟨ret_int HR.out.symm, HB3.out⟩
  · have HR := Lib.hid (jchk_graph (p := p) (s := s) (l := l) (q := q) hg)
    have h1 : (chk N es != 0) = true := by simpa using hg
    clear hg
    have HBX := Lib.hid hbx
    clear hbx
    go_enter Try.func29, Try.ntmps29
    go_wp2_with fail
    refine (check_any N A n c es _ hA1 hnc hn).mono ?_
    rintro e w1 ⟨rfl, hb1⟩
    have H1 := Lib.hid (HBX.out.next hb1).bl
    clear hb1
    go_wp2_with fail
    go_ret
    exact ⟨ret_int HR.out.symm, H1.out⟩
set_option maxHeartbeats 1000000 in
/-- The document's own Check of a job. -/
theorem rjcheck_any (N : Int) (A : Option Addr) (n c : Nat) (es : List Ed) (p s l q : Int) (w : World) (hA : Lies w w.heap.size 3 A n (ec es)) (hnc : n ≤ c) (hn : n ≤ maxLen) :
    Calls Try.prog 30 #[.agg #[.int .i64 N, .slice A n c], .agg #[.int .i64 p, .int .i64 s, .int .i64 l, .int .i64 q]] w fun e w' => e = .returned (.int .i64 (jchk N es p s l q)) ∧ Below w.heap.size w w' := by
  have hbx := Bx.init w N A n c p s l q
  have hA1 := hA.next hbx.bl
  by_cases hg : chk N es = 0
  · have HG := Lib.hid hg
    have HBX := Lib.hid hbx
    have HR := Lib.hid (show jchk N es p s l q = if badJ N p s l q then 1 else 0 by
      by_cases hb : badJ N p s l q
      · rw [jchk_bad hg hb, if_pos hb]
      · rw [jchk_good hg hb, if_neg hb])
    clear hg hbx
    go_enter Try.func30, Try.ntmps30
    go_wp2_with fail
    refine (rcheck_any N A n c es _ hA1 hnc hn).mono ?_
    rintro e w1 ⟨rfl, hb1⟩
    rw [HG.out]
    have hx1 := HBX.out.next hb1
    obtain ⟨z1, g0, g1, j0, j1, j2, j3, bl1⟩ := hx1
    have H1 := Lib.hid bl1
    clear hb1 hA1 HBX bl1
    by_cases q1 : p < 1
    · go_wp2_with fail
      go_ret
      exact ⟨ret_int (by rw [HR.out, if_pos (by unfold badJ; omega)]), H1.out⟩
    by_cases q2 : 5 < p
    · go_wp2_with fail
      go_ret
      exact ⟨ret_int (by rw [HR.out, if_pos (by unfold badJ; omega)]), H1.out⟩
    by_cases q3 : s < 0
    · go_wp2_with fail
      go_ret
      exact ⟨ret_int (by rw [HR.out, if_pos (by unfold badJ; omega)]), H1.out⟩
    by_cases q4 : N ≤ s
    · go_wp2_with fail
      go_ret
      exact ⟨ret_int (by rw [HR.out, if_pos (by unfold badJ; omega)]), H1.out⟩
    by_cases q5 : l < 0
    · go_wp2_with fail
      go_ret
      exact ⟨ret_int (by rw [HR.out, if_pos (by unfold badJ; omega)]), H1.out⟩
    by_cases q6 : 40 < l
    · go_wp2_with fail
      go_ret
      exact ⟨ret_int (by rw [HR.out, if_pos (by unfold badJ; omega)]), H1.out⟩
    by_cases q7 : q < 1
    · go_wp2_with fail
      go_ret
      exact ⟨ret_int (by rw [HR.out, if_pos (by unfold badJ; omega)]), H1.out⟩
    by_cases q8 : 6 < q
    · go_wp2_with fail
      go_ret
      exact ⟨ret_int (by rw [HR.out, if_pos (by unfold badJ; omega)]), H1.out⟩
    · go_wp2_with fail
      go_ret
      exact ⟨ret_int (by rw [HR.out, if_neg (by unfold badJ; omega)]), H1.out⟩
  · have HR := Lib.hid (jchk_graph (p := p) (s := s) (l := l) (q := q) hg)
    have h1 : (chk N es != 0) = true := by simpa using hg
    clear hg
    have HBX := Lib.hid hbx
    clear hbx
    go_enter Try.func30, Try.ntmps30
    go_wp2_with fail
    refine (rcheck_any N A n c es _ hA1 hnc hn).mono ?_
    rintro e w1 ⟨rfl, hb1⟩
    have H1 := Lib.hid (HBX.out.next hb1).bl
    clear hb1
    go_wp2_with fail
    go_ret
    exact ⟨ret_int HR.out.symm, H1.out⟩
end Go.Proofs.Ytgfcgeiifinmmaa

/-
  Contracts of programFor, Start and Fold. No condition.
-/
namespace Go.Proofs.Ytgfcgeiifinmmaa
open Go.ChangeShapes Go.WideShapes Go.ChangeAt Go.RowKit
set_option linter.unusedVariables false

theorem unfrozen {W : World} {b : Nat} {cs : Array Value} {T : TypeId} (h : W.heap[b]? = some (.cells cs T (0, 0))) (i : Nat) : W.frozen? ⟨b, i, none⟩ = false := by simp [World.frozen?, h]
end Go.Proofs.Ytgfcgeiifinmmaa

/-
  The contract of messages: what goes along the edges, in their order, or that one is too great. No condition but that the numbers are of 64 bits.
-/
namespace Go.Proofs.Ytgfcgeiifinmmaa
open Go.ChangeShapes Go.WideShapes Go.ChangeAt Go.RowKit
set_option linter.unusedVariables false

theorem mc_length (ms : List Ms) : (mc ms).length = ms.length * 2 := by
  unfold mc
  induction ms with
  | nil => rfl
  | cons e r ih => simp only [List.flatMap_cons, List.length_append, ih, List.length_cons, List.length_nil]; omega
theorem mc_append (a b : List Ms) : mc (a ++ b) = mc a ++ mc b := by unfold mc; simp
theorem mc_one (ms : List Ms) : ∀ u ∈ mc ms, u.oneCell' = true := by
  intro u hu
  unfold mc at hu
  obtain ⟨e, _, he⟩ := List.mem_flatMap.1 hu
  simp at he
  rcases he with rfl | rfl <;> rfl
theorem mc_at (ms : List Ms) (k : Nat) (h : k < ms.length) : (mc ms)[k * 2]? = some (.int .i64 (mAt ms k).1) ∧ (mc ms)[k * 2 + 1]? = some (.int .i64 (mAt ms k).2) := by
  induction ms generalizing k with
  | nil => simp at h
  | cons e r ih =>
    cases k with
    | zero => simp [mc, mAt]
    | succ k =>
      have := ih k (by simpa using h)
      have e1 : (k + 1) * 2 = k * 2 + 2 := by omega
      have e2 : k * 2 + 2 + 1 = k * 2 + 1 + 2 := by omega
      rw [e1, e2]
      exact this
theorem Lies.ms_len {w : World} {B : Nat} {A : Option Addr} {n : Nat} {ms : List Ms} (h : Lies w B 2 A n (mc ms)) : ms.length = n := by
  have := h.1
  rw [mc_length] at this
  omega
/-- The cells of a message. -/
theorem Lies.ms {w : World} {B : Nat} {A : Option Addr} {n : Nat} {ms : List Ms} (h : Lies w B 2 A n (mc ms)) (k : Nat) (hk : k < n) :
    ∃ ad, A = some ad ∧ ad.block < B ∧ w.cell? (ad.add (k * 2)) = some (.int .i64 (mAt ms k).1) ∧ w.cell? ⟨(ad.add (k * 2)).block, (ad.add (k * 2)).off + 1, none⟩ = some (.int .i64 (mAt ms k).2) := by
  have hl := h.ms_len
  obtain ⟨a0, a1⟩ := mc_at ms k (by omega)
  obtain ⟨ad, e, hb, c0⟩ := h.2 _ _ a0
  obtain ⟨ad1, e1, _, c1⟩ := h.2 _ _ a1
  rw [e] at e1
  injection e1 with e1
  subst e1
  rw [← add_add] at c1
  exact ⟨ad, e, hb, c0, c1⟩
end Go.Proofs.Ytgfcgeiifinmmaa

/-
  The contract of Turn: what a vertex does in a superstep, or what is told. No condition but that the value and what came are numbers of 64 bits.
-/
namespace Go.Proofs.Ytgfcgeiifinmmaa
open Go.ChangeShapes Go.WideShapes Go.ChangeAt Go.RowKit
set_option linter.unusedVariables false

/-- What stands boxed in Turn: the graph, the job, the program's row (block b), the turn (block b + 1). -/
structure Tb (w : World) (b : Nat) (N : Int) (A : Option Addr) (n c : Nat) (p s l q : Int) (k0 k1 k2 k3 k4 k5 : Nat) (y : Array Value) (st v val got : Int) (sm : Bool) (W : World) : Prop where
  x : Bx w N A n c p s l q W
  z : b + 2 ≤ W.heap.size
  hb : w.heap.size + 2 ≤ b
  r0 : W.cell? ⟨b, 0, none⟩ = some (.func (.func k0) #[] #[])
  r1 : W.cell? ⟨b, 1, none⟩ = some (.func (.func k1) #[] #[])
  r2 : W.cell? ⟨b, 2, none⟩ = some (.func (.func k2) #[] y)
  r3 : W.cell? ⟨b, 3, none⟩ = some (.func (.func k3) #[] #[])
  r4 : W.cell? ⟨b, 4, none⟩ = some (.func (.func k4) #[] #[])
  r5 : W.cell? ⟨b, 5, none⟩ = some (.func (.func k5) #[] #[])
  t0 : W.cell? ⟨b + 1, 0, none⟩ = some (.int .i64 s)
  t1 : W.cell? ⟨b + 1, 1, none⟩ = some (.int .i64 st)
  t2 : W.cell? ⟨b + 1, 2, none⟩ = some (.int .i64 v)
  t3 : W.cell? ⟨b + 1, 3, none⟩ = some (.int .i64 val)
  t4 : W.cell? ⟨b + 1, 4, none⟩ = some (.int .i64 got)
  t5 : W.cell? ⟨b + 1, 5, none⟩ = some (.bool sm)
  cap : Cap w.heap.size p y W
theorem Tb.next {w : World} {b : Nat} {N : Int} {A : Option Addr} {n c : Nat} {p s l q : Int} {k0 k1 k2 k3 k4 k5 : Nat} {y : Array Value} {st v val got : Int} {sm : Bool} {W W' : World} (h : Tb w b N A n c p s l q k0 k1 k2 k3 k4 k5 y st v val got sm W) (hb : Below W.heap.size W W') : Tb w b N A n c p s l q k0 k1 k2 k3 k4 k5 y st v val got sm W' :=
  have k : ∀ g o, g < b + 2 → W'.cell? ⟨g, o, none⟩ = W.cell? ⟨g, o, none⟩ := fun g o hl => hb.cell (p := ⟨g, o, none⟩) (Nat.lt_of_lt_of_le hl h.z)
  ⟨h.x.next hb, Nat.le_trans h.z hb.size, h.hb, (k _ 0 (by omega)).trans h.r0, (k _ 1 (by omega)).trans h.r1, (k _ 2 (by omega)).trans h.r2, (k _ 3 (by omega)).trans h.r3, (k _ 4 (by omega)).trans h.r4, (k _ 5 (by omega)).trans h.r5, (k _ 0 (by omega)).trans h.t0, (k _ 1 (by omega)).trans h.t1, (k _ 2 (by omega)).trans h.t2, (k _ 3 (by omega)).trans h.t3, (k _ 4 (by omega)).trans h.t4, (k _ 5 (by omega)).trans h.t5, h.cap.next hb⟩
theorem Tb.init {w w1 : World} {N : Int} {A : Option Addr} {n c : Nat} {p s l q : Int} {k0 k1 k2 k3 k4 k5 : Nat} {y : Array Value} {st v val got : Int} {sm : Bool} (hx : Bx w N A n c p s l q w1) (hc : Cap w.heap.size p y w1) :
    Tb w w1.heap.size N A n c p s l q k0 k1 k2 k3 k4 k5 y st v val got sm ((w1.alloc (.cells #[.func (.func k0) #[] #[], .func (.func k1) #[] #[], .func (.func k2) #[] y, .func (.func k3) #[] #[], .func (.func k4) #[] #[], .func (.func k5) #[] #[]] 82)).alloc (.cells #[.int .i64 s, .int .i64 st, .int .i64 v, .int .i64 val, .int .i64 got, .bool sm] 110)) :=
  ⟨(hx.alloc _).alloc _, by simp, hx.z, by simp [go_sem], by simp [go_sem], by simp [go_sem], by simp [go_sem], by simp [go_sem], by simp [go_sem], by simp [go_sem], by simp [go_sem], by simp [go_sem], by simp [go_sem], by simp [go_sem], by simp [go_sem], (hc.next (below_alloc _ _)).next (below_alloc _ _)⟩
end Go.Proofs.Ytgfcgeiifinmmaa

/-
  Contracts of the document's own Start, Fold, sum and sent, and of the examples' graph. No condition but that the numbers are of 64 bits and the vertex one of a graph that is right.
-/
namespace Go.Proofs.Ytgfcgeiifinmmaa
open Go.ChangeShapes Go.WideShapes Go.ChangeAt Go.RowKit
set_option linter.unusedVariables false

/-- The edges of the examples' graph. -/
def twoE : List Ed := [(0, 1, 7), (1, 0, 5)]
end Go.Proofs.Ytgfcgeiifinmmaa

/-
  Words for memory in which one block alone is written: 'Bel1'; and the step law of an append whose run is known. No condition.
-/
namespace Go.Proofs.Ytgfcgeiifinmmaa
open Go.ChangeShapes Go.WideShapes Go.ChangeAt Go.RowKit
set_option linter.unusedVariables false

/-- Ahead of block B nothing has changed but block g. -/
structure Bel1 (B g : Nat) (w W : World) : Prop where
  os : W.os = w.os
  tape : W.tape = w.tape
  output : W.output = w.output
  size : w.heap.size ≤ W.heap.size
  block : ∀ k, k < B → k ≠ g → W.heap[k]? = w.heap[k]?
theorem Bel1.refl (B g : Nat) (w : World) : Bel1 B g w w := ⟨rfl, rfl, rfl, Nat.le_refl _, fun _ _ _ => rfl⟩
theorem Bel1.below {B B' g : Nat} {w W W' : World} (h : Bel1 B g w W) (hb : Below B' W W') (hB : B ≤ B') : Bel1 B g w W' :=
  ⟨hb.os.trans h.os, hb.tape.trans h.tape, hb.output.trans h.output, Nat.le_trans h.size hb.size, fun k h1 h2 => (hb.block k (Nat.lt_of_lt_of_le h1 hB)).trans (h.block k h1 h2)⟩
theorem Bel1.drew {B g : Nat} {w W : World} (h : Bel1 B g w W) : Bel1 B g w W.drew := ⟨h.os, h.tape, h.output, h.size, h.block⟩
theorem Bel1.set {B g : Nat} {w W : World} (h : Bel1 B g w W) (i : Nat) (v : Value) : Bel1 B g w (W.setCell ⟨g, i, none⟩ v) := by
  have hb := (Below.refl 0 W).setCell (p := ⟨g, i, none⟩) (Nat.zero_le _) v
  refine ⟨hb.os.trans h.os, hb.tape.trans h.tape, hb.output.trans h.output, Nat.le_trans h.size hb.size, fun k h1 h2 => ?_⟩
  have e : (W.setCell ⟨g, i, none⟩ v).heap[k]? = W.heap[k]? := by
    rcases Nat.lt_or_gt_of_ne h2 with hl | hl
    · exact ((Below.refl g W).setCell (p := ⟨g, i, none⟩) (Nat.le_refl _) v).block k hl
    · simp [World.setCell, Array.getElem?_modify]
      intro hgk
      omega
  exact e.trans (h.block k h1 h2)
theorem Bel1.cell {B g : Nat} {w W : World} (h : Bel1 B g w W) {p : Addr} (h1 : p.block < B) (h2 : p.block ≠ g) : W.cell? p = w.cell? p := by
  unfold World.cell?
  rw [h.block _ h1 h2]
theorem Bel1.low {B g : Nat} {w W : World} (h : Bel1 B g w W) {B' : Nat} (h1 : B' ≤ B) (h2 : B' ≤ g) : Below B' w W := ⟨h.os, h.tape, h.output, h.size, fun k hk => h.block k (by omega) (by omega)⟩
theorem Bel1.own {g base s n : Nat} {w W : World} {e : TypeId} {v : Value} {xs : List Value} (h : Bel1 w.heap.size g w W) (ho : w.ownsRow base e s v n xs) (hg : g < base) : W.ownsRow base e s v n xs := by
  refine ⟨ho.1, ?_⟩
  rcases ho.2 with h2 | ⟨g', cap, cur, hv, hg', hc, r⟩
  · exact .inl h2
  · refine .inr ⟨g', cap, cur, hv, hg', ?_, r⟩
    rw [h.block g' (Array.getElem?_eq_some_iff.1 hc).1 (by omega)]
    exact hc
theorem set_heap {W : World} {g i : Nat} {cur : Array Value} {t : TypeId} (h : W.heap[g]? = some (.cells cur t (0, 0))) (v : Value) : (W.setCell ⟨g, i, none⟩ v).heap[g]? = some (.cells (cur.setIfInBounds i v) t (0, 0)) := by
  rw [setCell_eq_setRow W g i cur t (0, 0) v h]
  exact setRow_heap W g cur _ t (0, 0) h
theorem step_app {P : Program} {ops : Array Oper} {o : Oper} {a : Act} {w : World} {K : Act → World → Prop} {Q : Exit → Act → World → Prop} {E : Prop}
    (hg : o.guard = none) (d x : Operand) (dT sT : TypeId) (hop : o.op = Op.call { callee := Callee.builtin Builtin.append, args := #[d, x], argTypes := #[dT, sT] })
    (v u : Value) (hd : a.eval d = v) (hx : a.eval x = u) {v' : Value} {w' : World} (hr : (Builtin.append_ #[dT, sT] o.type #[v, u]).run P w = .ok v' w') (hK : K (a.put o.dst v') w') :
    if Region.wanted o (yielded ops a.tmps) = true then Oper.wp P o a w K Q else E := by
  have hw : Region.wanted o (yielded ops a.tmps) = true := by simp [Region.wanted, hg]
  rw [if_pos hw]
  unfold Oper.wp
  simp [execOp, hop, resolve, invoke, builtin, hd, hx, hr, Result.andThen]
  exact hK
end Go.Proofs.Ytgfcgeiifinmmaa

