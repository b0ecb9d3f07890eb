import Derived.Test.YtpgdddjjjfkneaaGreatDoorKa
import Derived.Test.YtpgdddjjjfkneaaGreatDoorKb
import Derived.Laws.EntriesVeiled
/-
  Contracts of the functions that stand in a program's row: the value at the beginning, the fold, the value, whether it sends, what goes along an edge, whether it rests. No condition.
-/
namespace Go.Proofs.YtpgdddjjjfkneaaGreatDoor
open Go.ChangeShapes Go.WideShapes Go.ChangeAt Go.RowKit
set_option linter.unusedVariables false

theorem ret_tb {a b : Int} {c d : Bool} (h : a = b) (g : c = d) : Ending.returned (.tuple #[.int .i64 a, .bool c]) = .returned (.tuple #[.int .i64 b, .bool d]) := by rw [h, g]
theorem ret_b {a b : Bool} (h : a = b) : Ending.returned (.bool a) = .returned (.bool b) := by rw [h]
theorem fromSource_any (s v : Int) (w : World) : Calls Tryz.prog 60 #[.int .i64 s, .int .i64 v] w fun e w' => e = .returned (.int .i64 (if v = s then 0 else 9223372036854775807)) ∧ w = w' := by
  by_cases h : v = s
  · rw [if_pos h]
    subst h
    go_enter Tryz.func60, Tryz.ntmps60
    go_wp2
    go_ret
    exact ⟨rfl, rfl⟩
  · rw [if_neg h]
    have h' : (v == s) = false := by simpa using h
    clear h
    go_enter Tryz.func60, Tryz.ntmps60
    go_wp2
    go_ret
    exact ⟨rfl, rfl⟩
theorem own_any (s v : Int) (w : World) : Calls Tryz.prog 66 #[.int .i64 s, .int .i64 v] w fun e w' => e = .returned (.int .i64 v) ∧ w = w' := by
  go_enter Tryz.func66, Tryz.ntmps66
  go_wp2
  go_ret
  exact ⟨rfl, rfl⟩
theorem mark_any (s v : Int) (w : World) : Calls Tryz.prog 70 #[.int .i64 s, .int .i64 v] w fun e w' => e = .returned (.int .i64 (markI v)) ∧ w = w' := by
  go_enter Tryz.func70, Tryz.ntmps70
  go_wp2
  go_ret
  exact ⟨rfl, rfl⟩
theorem unit_any (s v : Int) (w : World) : Calls Tryz.prog 72 #[.int .i64 s, .int .i64 v] w fun e w' => e = .returned (.int .i64 1000000) ∧ w = w' := by
  go_enter Tryz.func72, Tryz.ntmps72
  go_wp2
  go_ret
  exact ⟨rfl, rfl⟩
theorem less_any (a b : Int) (w : World) : Calls Tryz.prog 61 #[.int .i64 a, .int .i64 b] w fun e w' => e = .returned (.tuple #[.int .i64 (lessI a b), .bool true]) ∧ w = w' := by
  go_enter Tryz.func61, Tryz.ntmps61
  go_wp2
  · go_ret2
    exact ⟨ret_tb (by unfold lessI; rw [if_pos (by assumption)]) rfl, rfl⟩
  · go_ret2
    exact ⟨ret_tb (by unfold lessI; rw [if_neg (by omega)]) rfl, rfl⟩
theorem greater_any (a b : Int) (w : World) : Calls Tryz.prog 71 #[.int .i64 a, .int .i64 b] w fun e w' => e = .returned (.tuple #[.int .i64 (greatI a b), .bool true]) ∧ w = w' := by
  go_enter Tryz.func71, Tryz.ntmps71
  go_wp2
  · go_ret2
    exact ⟨ret_tb (by unfold greatI; rw [if_pos (by assumption)]) rfl, rfl⟩
  · go_ret2
    exact ⟨ret_tb (by unfold greatI; rw [if_neg (by omega)]) rfl, rfl⟩
/-- The value of all but Rank: the fold's, if something came. -/
theorem better_some (k : Nat) (f : Int → Int → Int) (hk : ∀ a W, (callFunc k a).run Tryz.prog W = .ok (.enter k a) W)
    (hf : ∀ a b W, Calls Tryz.prog k #[.int .i64 a, .int .i64 b] W fun e W' => e = .returned (.tuple #[.int .i64 (f a b), .bool true]) ∧ W = W')
    (b : Nat) (s st v val got : Int) (w : World) (hb : w.cell? ⟨b, 0, none⟩ = some (.func (.func k) #[] #[])) (hl : b < w.heap.size) :
    Calls Tryz.prog 101 #[.agg #[.int .i64 s, .int .i64 st, .int .i64 v, .int .i64 val, .int .i64 got, .bool true], .pointer (some ⟨b, 0, none⟩)] w fun e w' =>
      e = .returned (.tuple #[.int .i64 (f val got), .bool true]) ∧ Below w.heap.size w w' := by
  have HF := Lib.hid hf
  clear hf
  go_enter Tryz.func101, Tryz.ntmps101
  go_wp2_with fail
  refine (HF.out val got _).mono ?_
  rintro e w' ⟨rfl, rfl⟩
  go_wp2_with fail
  go_ret2
  exact ⟨rfl, below_alloc _ _⟩
theorem better_none (b : Nat) (s st v val got : Int) (w : World) :
    Calls Tryz.prog 101 #[.agg #[.int .i64 s, .int .i64 st, .int .i64 v, .int .i64 val, .int .i64 got, .bool false], .pointer (some ⟨b, 0, none⟩)] w fun e w' =>
      e = .returned (.tuple #[.int .i64 val, .bool true]) ∧ Below w.heap.size w w' := by
  go_enter Tryz.func101, Tryz.ntmps101
  go_wp2_with fail
  go_ret2
  exact ⟨rfl, below_alloc _ _⟩
theorem moved_any (s st v val got : Int) (sm : Bool) (now : Int) (w : World) :
    Calls Tryz.prog 67 #[.agg #[.int .i64 s, .int .i64 st, .int .i64 v, .int .i64 val, .int .i64 got, .bool sm], .int .i64 now] w fun e w' =>
      e = .returned (.bool (now != val || st == 0)) ∧ Below w.heap.size w w' := by
  by_cases h : now = val
  · subst h
    go_enter Tryz.func67, Tryz.ntmps67
    go_wp2
    all_goals
      go_ret
      exact ⟨ret_b (by simp), below_alloc _ _⟩
  · have h' : (now != val) = true := by simpa using h
    clear h
    have HH := Lib.hid h'
    go_enter Tryz.func67, Tryz.ntmps67
    go_wp2
    all_goals
      go_ret
      exact ⟨ret_b (by simp [HH.out]), below_alloc _ _⟩
theorem movedS_any (s st v val got : Int) (sm : Bool) (now : Int) (w : World) :
    Calls Tryz.prog 63 #[.agg #[.int .i64 s, .int .i64 st, .int .i64 v, .int .i64 val, .int .i64 got, .bool sm], .int .i64 now] w fun e w' =>
      e = .returned (.bool (now != val || (st == 0 && v == s))) ∧ Below w.heap.size w w' := by
  by_cases h : now = val
  · subst h
    by_cases h0 : st = 0
    · subst h0
      go_enter Tryz.func63, Tryz.ntmps63
      go_wp2
      go_ret
      exact ⟨ret_b (by simp), below_alloc _ _⟩
    · have h0' : (st == 0) = false := by simpa using h0
      clear h0
      have HH := Lib.hid h0'
      go_enter Tryz.func63, Tryz.ntmps63
      go_wp2
      go_ret
      exact ⟨ret_b (by simp [HH.out]), below_alloc _ _⟩
  · have h' : (now != val) = true := by simpa using h
    clear h
    have HH := Lib.hid h'
    go_enter Tryz.func63, Tryz.ntmps63
    go_wp2
    go_ret
    exact ⟨ret_b (by simp [HH.out]), below_alloc _ _⟩
theorem inRounds_any (s st v val got : Int) (sm : Bool) (now : Int) (w : World) :
    Calls Tryz.prog 75 #[.agg #[.int .i64 s, .int .i64 st, .int .i64 v, .int .i64 val, .int .i64 got, .bool sm], .int .i64 now] w fun e w' =>
      e = .returned (.bool (decide (st < 10))) ∧ Below w.heap.size w w' := by
  go_enter Tryz.func75, Tryz.ntmps75
  go_wp2
  go_ret
  exact ⟨rfl, below_alloc _ _⟩
theorem always_any (st : Int) (w : World) : Calls Tryz.prog 65 #[.int .i64 st] w fun e w' => e = .returned (.bool true) ∧ w = w' := by
  go_enter Tryz.func65, Tryz.ntmps65
  go_wp2
  go_ret
  exact ⟨rfl, rfl⟩
theorem behind_any (st : Int) (w : World) : Calls Tryz.prog 77 #[.int .i64 st] w fun e w' => e = .returned (.bool (decide (10 ≤ st))) ∧ w = w' := by
  go_enter Tryz.func77, Tryz.ntmps77
  go_wp2
  go_ret
  exact ⟨rfl, rfl⟩
theorem weight_any (now : Int) (x : Ed) (m : Int) (w : World) (h1 : bd now) (h2 : bd x.2.2) :
    Calls Tryz.prog 64 #[.int .i64 now, .agg #[.int .i64 x.1, .int .i64 x.2.1, .int .i64 x.2.2], .int .i64 m] w fun e w' =>
      e = .returned (.tuple #[.int .i64 (told (now + x.2.2)), .bool (fits (now + x.2.2))]) ∧ Below w.heap.size w w' := by
  go_enter Tryz.func64, Tryz.ntmps64
  go_wp2_with fail
  refine (add_any now x.2.2 _ h1.1 h1.2 h2.1 h2.2).mono ?_
  rintro e w' ⟨rfl, rfl⟩
  go_wp2_with fail
  go_ret2
  exact ⟨rfl, below_alloc _ _⟩
theorem one_any (now : Int) (x : Ed) (m : Int) (w : World) (h1 : bd now) :
    Calls Tryz.prog 69 #[.int .i64 now, .agg #[.int .i64 x.1, .int .i64 x.2.1, .int .i64 x.2.2], .int .i64 m] w fun e w' =>
      e = .returned (.tuple #[.int .i64 (told (now + 1)), .bool (fits (now + 1))]) ∧ Below w.heap.size w w' := by
  go_enter Tryz.func69, Tryz.ntmps69
  go_wp2_with fail
  refine (add_any now 1 _ h1.1 h1.2 (by decide) (by decide)).mono ?_
  rintro e w' ⟨rfl, rfl⟩
  go_wp2_with fail
  go_ret2
  exact ⟨rfl, below_alloc _ _⟩
theorem asIs_any (now : Int) (x : Ed) (m : Int) (w : World) :
    Calls Tryz.prog 68 #[.int .i64 now, .agg #[.int .i64 x.1, .int .i64 x.2.1, .int .i64 x.2.2], .int .i64 m] w fun e w' =>
      e = .returned (.tuple #[.int .i64 now, .bool true]) ∧ Below w.heap.size w w' := by
  go_enter Tryz.func68, Tryz.ntmps68
  go_wp2_with fail
  go_ret2
  exact ⟨rfl, below_alloc _ _⟩
theorem share_any (now : Int) (x : Ed) (m : Int) (w : World) (h1 : bd now) (h2 : bd m) :
    Calls Tryz.prog 76 #[.int .i64 now, .agg #[.int .i64 x.1, .int .i64 x.2.1, .int .i64 x.2.2], .int .i64 m] w fun e w' =>
      e = .returned (.tuple #[.int .i64 (quoV now 1 m), .bool (quoB now 1 m)]) ∧ Below w.heap.size w w' := by
  go_enter Tryz.func76, Tryz.ntmps76
  go_wp2_with fail
  refine (ratio_any now 1 m _ h1.1 h1.2 (by decide) (by decide) h2.1 h2.2).mono ?_
  rintro e w1 ⟨rfl, G1⟩
  have hb := (below_alloc w _).trans (G1.mono (by simp))
  have HB := Lib.hid hb
  clear G1 hb
  go_wp2_with fail
  go_ret2
  exact ⟨rfl, HB.out⟩
theorem rank_zero (s v val got : Int) (sm : Bool) (w : World) :
    Calls Tryz.prog 74 #[.agg #[.int .i64 s, .int .i64 0, .int .i64 v, .int .i64 val, .int .i64 got, .bool sm]] w fun e w' =>
      e = .returned (.tuple #[.int .i64 val, .bool true]) ∧ Below w.heap.size w w' := by
  go_enter Tryz.func74, Tryz.ntmps74
  go_wp2_with fail
  go_ret2
  exact ⟨rfl, below_alloc _ _⟩
theorem rank_more (s st v val got : Int) (sm : Bool) (w : World) (h0 : ¬ st = 0) (hg : bd got) :
    Calls Tryz.prog 74 #[.agg #[.int .i64 s, .int .i64 st, .int .i64 v, .int .i64 val, .int .i64 got, .bool sm]] w fun e w' =>
      e = .returned (.tuple #[.int .i64 (if quoB (cameI got sm) 85 100 = true then told (150000 + quoV (cameI got sm) 85 100) else 0), .bool (if quoB (cameI got sm) 85 100 = true then fits (150000 + quoV (cameI got sm) 85 100) else false)]) ∧ Below w.heap.size w w' := by
  have h0' : (st == 0) = false := by simpa using h0
  clear h0
  have HB := Lib.hid (cameI_bd (sm := sm) hg)
  have HQ := Lib.hid (quoV_bd (cameI got sm) 85 100)
  clear hg
  cases sm with
  | true =>
    have e1 : cameI got true = got := rfl
    rw [e1] at HB HQ ⊢
    clear e1
    by_cases hq : quoB got 85 100 = true
    · rw [if_pos hq, if_pos hq]
      go_enter Tryz.func74, Tryz.ntmps74
      go_wp2_with fail
      refine (ratio_any got 85 100 _ HB.out.1 HB.out.2 (by decide) (by decide) (by decide) (by decide)).mono ?_
      rintro e w1 ⟨rfl, G1⟩
      have H1 := Lib.hid ((below_alloc w _).trans (G1.mono (by simp)))
      clear G1
      go_wp2_with fail
      refine (add_any 150000 (quoV got 85 100) _ (by decide) (by decide) HQ.out.1 HQ.out.2).mono ?_
      rintro e w' ⟨rfl, rfl⟩
      go_wp2_with fail
      go_ret2
      exact ⟨rfl, H1.out⟩
    · rw [if_neg hq, if_neg hq]
      have hq' : quoB got 85 100 = false := by simpa using hq
      clear hq
      go_enter Tryz.func74, Tryz.ntmps74
      go_wp2_with fail
      refine (ratio_any got 85 100 _ HB.out.1 HB.out.2 (by decide) (by decide) (by decide) (by decide)).mono ?_
      rintro e w1 ⟨rfl, G1⟩
      have H1 := Lib.hid ((below_alloc w _).trans (G1.mono (by simp)))
      clear G1
      go_wp2_with fail
      go_ret2
      exact ⟨rfl, H1.out⟩
  | false =>
    have e1 : cameI got false = 0 := rfl
    rw [e1] at HB HQ ⊢
    clear e1
    by_cases hq : quoB 0 85 100 = true
    · rw [if_pos hq, if_pos hq]
      go_enter Tryz.func74, Tryz.ntmps74
      go_wp2_with fail
      refine (ratio_any 0 85 100 _ HB.out.1 HB.out.2 (by decide) (by decide) (by decide) (by decide)).mono ?_
      rintro e w1 ⟨rfl, G1⟩
      have H1 := Lib.hid ((below_alloc w _).trans (G1.mono (by simp)))
      clear G1
      go_wp2_with fail
      refine (add_any 150000 (quoV 0 85 100) _ (by decide) (by decide) HQ.out.1 HQ.out.2).mono ?_
      rintro e w' ⟨rfl, rfl⟩
      go_wp2_with fail
      go_ret2
      exact ⟨rfl, H1.out⟩
    · exact absurd (by kernel_rfl) hq
/-- What the program's value function has captured lies in memory, at block B or behind it. -/
def Cap (B : Nat) (p : Int) (y : Array Value) (W : World) : Prop :=
  p = 5 ∨ ∃ b, y = #[.pointer (some ⟨b, 0, none⟩)] ∧ B ≤ b ∧ b < W.heap.size ∧ W.cell? ⟨b, 0, none⟩ = some (.func (.func (if p = 4 then 71 else 61)) #[] #[])
theorem Cap.next {B : Nat} {p : Int} {y : Array Value} {W W' : World} (h : Cap B p y W) (hb : Below W.heap.size W W') : Cap B p y W' := by
  rcases h with h | ⟨b, h1, h2, h3, h4⟩
  · exact .inl h
  · exact .inr ⟨b, h1, h2, Nat.lt_of_lt_of_le h3 hb.size, (hb.cell (p := ⟨b, 0, none⟩) h3).trans h4⟩
theorem Cap.set {B : Nat} {p : Int} {y : Array Value} {W : World} (h : Cap B p y W) {a : Addr} (ha : a.block < B) (v : Value) : Cap B p y (W.setCell a v) := by
  rcases h with h | ⟨b, h1, h2, h3, h4⟩
  · exact .inl h
  · exact .inr ⟨b, h1, h2, by simpa [World.setCell] using h3, (World.cell?_setCell_other _ _ _ _ (by intro e; rw [e] at ha; simp at ha; omega)).trans h4⟩
theorem Cap.low {B B' : Nat} {p : Int} {y : Array Value} {W : World} (h : Cap B p y W) (hB : B' ≤ B) : Cap B' p y W := by
  rcases h with h | ⟨b, h1, h2, h3, h4⟩
  · exact .inl h
  · exact .inr ⟨b, h1, by omega, h3, h4⟩
/-- A program's row: what its six functions answer. -/
structure Prg (p : Int) (k0 k1 k2 k3 k4 k5 : Nat) (y : Array Value) : Prop where
  c0 : ∀ a W, (callFunc k0 a).run Tryz.prog W = .ok (.enter k0 a) W
  c1 : ∀ a W, (callFunc k1 a).run Tryz.prog W = .ok (.enter k1 a) W
  c2 : ∀ a W, (callFunc k2 a).run Tryz.prog W = .ok (.enter k2 a) W
  c3 : ∀ a W, (callFunc k3 a).run Tryz.prog W = .ok (.enter k3 a) W
  c4 : ∀ a W, (callFunc k4 a).run Tryz.prog W = .ok (.enter k4 a) W
  c5 : ∀ a W, (callFunc k5 a).run Tryz.prog W = .ok (.enter k5 a) W
  start : ∀ s v W, Calls Tryz.prog k0 #[.int .i64 s, .int .i64 v] W fun e W' => e = .returned (.int .i64 (startI p s v)) ∧ W = W'
  fold : ∀ a b W, bd a → bd b → Calls Tryz.prog k1 #[.int .i64 a, .int .i64 b] W fun e W' => e = .returned (.tuple #[.int .i64 (foldX p a b), .bool (foldB p a b)]) ∧ W = W'
  value : ∀ s st v val got sm W B, Cap B p y W → bd val → bd got →
    Calls Tryz.prog k2 (#[.agg #[.int .i64 s, .int .i64 st, .int .i64 v, .int .i64 val, .int .i64 got, .bool sm]] ++ y) W fun e W' =>
      e = .returned (.tuple #[.int .i64 (valX p st val got sm), .bool (valB p st val got sm)]) ∧ Below W.heap.size W W'
  sends : ∀ s st v val got sm now W,
    Calls Tryz.prog k3 #[.agg #[.int .i64 s, .int .i64 st, .int .i64 v, .int .i64 val, .int .i64 got, .bool sm], .int .i64 now] W fun e W' =>
      e = .returned (.bool (sendB p s st v val now)) ∧ Below W.heap.size W W'
  along : ∀ now (x : Ed) m W, bd now → bd x.2.2 → bd m →
    Calls Tryz.prog k4 #[.int .i64 now, .agg #[.int .i64 x.1, .int .i64 x.2.1, .int .i64 x.2.2], .int .i64 m] W fun e W' =>
      e = .returned (.tuple #[.int .i64 (alX p now x m), .bool (alB p now x m)]) ∧ Below W.heap.size W W'
  rests : ∀ st W, Calls Tryz.prog k5 #[.int .i64 st] W fun e W' => e = .returned (.bool (restB p st)) ∧ W = W'
/-- What programOf answers for a number of a program. -/
def OfPost (p : Int) (w : World) (e : Ending) (w' : World) : Prop :=
  Below w.heap.size w w' ∧ ∃ k0 k1 k2 k3 k4 k5 y, e = .returned (.tuple #[.agg #[.func (.func k0) #[] #[], .func (.func k1) #[] #[], .func (.func k2) #[] y, .func (.func k3) #[] #[], .func (.func k4) #[] #[], .func (.func k5) #[] #[]], .bool true]) ∧
    Prg p k0 k1 k2 k3 k4 k5 y ∧ Cap w.heap.size p y w'
theorem prg5 : Prg 5 72 73 74 75 76 77 #[] where
  c0 := Tryz.call72
  c1 := Tryz.call73
  c2 := Tryz.call74
  c3 := Tryz.call75
  c4 := Tryz.call76
  c5 := Tryz.call77
  start := fun s v W => unit_any s v W
  fold := fun a b W ha hb => add_any a b W ha.1 ha.2 hb.1 hb.2
  value := fun s st v val got sm W _ _ hv hg => by
    by_cases h : st = 0
    · subst h
      exact rank_zero s v val got sm W
    · have h1 : valX 5 st val got sm = (if quoB (cameI got sm) 85 100 = true then told (150000 + quoV (cameI got sm) 85 100) else 0) := by unfold valX; rw [if_pos rfl, if_neg h]
      have h2 : valB 5 st val got sm = (if quoB (cameI got sm) 85 100 = true then fits (150000 + quoV (cameI got sm) 85 100) else false) := by unfold valB; rw [if_pos rfl, if_neg h]
      rw [h1, h2]
      exact rank_more s st v val got sm W h hg
  sends := fun s st v val got sm now W => inRounds_any s st v val got sm now W
  along := fun now x m W h1 h2 h3 => share_any now x m W h1 h3
  rests := fun st W => behind_any st W
end Go.Proofs.YtpgdddjjjfkneaaGreatDoor

/-
  Contracts of programOf: for a number of a program its row, else none. No condition.
-/
namespace Go.Proofs.YtpgdddjjjfkneaaGreatDoor
open Go.ChangeShapes Go.WideShapes Go.ChangeAt Go.RowKit
set_option linter.unusedVariables false

theorem better_less (p : Int) (hp : p = 1 ∨ p = 2 ∨ p = 3) (B b : Nat) (s st v val got : Int) (sm : Bool) (W : World) (hC : Cap B p #[.pointer (some ⟨b, 0, none⟩)] W) :
    Calls Tryz.prog 101 #[.agg #[.int .i64 s, .int .i64 st, .int .i64 v, .int .i64 val, .int .i64 got, .bool sm], .pointer (some ⟨b, 0, none⟩)] W fun e W' =>
      e = .returned (.tuple #[.int .i64 (valX p st val got sm), .bool (valB p st val got sm)]) ∧ Below W.heap.size W W' := by
  have h5 : ¬ p = 5 := by omega
  have h4 : ¬ p = 4 := by omega
  rcases hC with hC | ⟨b', hb', _, hl, hc⟩
  · exact absurd hC h5
  have e0 : b = b' := by injection hb' with e; injection e with e _; injection e with e; injection e with e; injection e with e
  subst e0
  rw [if_neg h4] at hc
  cases sm with
  | true =>
    have e1 : valX p st val got true = lessI val got := by unfold valX foldX; rw [if_neg h5, if_pos rfl, if_neg h5, if_neg h4]
    have e2 : valB p st val got true = true := by unfold valB; rw [if_neg h5]
    rw [e1, e2]
    exact better_some 61 lessI Tryz.call61 less_any b s st v val got W hc hl
  | false =>
    have e1 : valX p st val got false = val := by unfold valX; rw [if_neg h5]; rfl
    have e2 : valB p st val got false = true := by unfold valB; rw [if_neg h5]
    rw [e1, e2]
    exact better_none b s st v val got W
theorem better_great (B b : Nat) (s st v val got : Int) (sm : Bool) (W : World) (hC : Cap B 4 #[.pointer (some ⟨b, 0, none⟩)] W) :
    Calls Tryz.prog 101 #[.agg #[.int .i64 s, .int .i64 st, .int .i64 v, .int .i64 val, .int .i64 got, .bool sm], .pointer (some ⟨b, 0, none⟩)] W fun e W' =>
      e = .returned (.tuple #[.int .i64 (valX 4 st val got sm), .bool (valB 4 st val got sm)]) ∧ Below W.heap.size W W' := by
  rcases hC with hC | ⟨b', hb', _, hl, hc⟩
  · cases hC
  have e0 : b = b' := by injection hb' with e; injection e with e _; injection e with e; injection e with e; injection e with e
  subst e0
  rw [if_pos rfl] at hc
  cases sm with
  | true => exact better_some 71 greatI Tryz.call71 greater_any b s st v val got W hc hl
  | false => exact better_none b s st v val got W
theorem prg1 (b : Nat) : Prg 1 60 61 101 63 64 65 #[.pointer (some ⟨b, 0, none⟩)] where
  c0 := Tryz.call60
  c1 := Tryz.call61
  c2 := Tryz.call101
  c3 := Tryz.call63
  c4 := Tryz.call64
  c5 := Tryz.call65
  start := fun s v W => fromSource_any s v W
  fold := fun a b W _ _ => less_any a b W
  value := fun s st v val got sm W B hC hv hg => better_less 1 (.inl rfl) B b s st v val got sm W hC
  sends := fun s st v val got sm now W => movedS_any s st v val got sm now W
  along := fun now x m W h1 h2 h3 => weight_any now x m W h1 h2
  rests := fun st W => always_any st W
theorem prg2 (b : Nat) : Prg 2 66 61 101 67 68 65 #[.pointer (some ⟨b, 0, none⟩)] where
  c0 := Tryz.call66
  c1 := Tryz.call61
  c2 := Tryz.call101
  c3 := Tryz.call67
  c4 := Tryz.call68
  c5 := Tryz.call65
  start := fun s v W => own_any s v W
  fold := fun a b W _ _ => less_any a b W
  value := fun s st v val got sm W B hC hv hg => better_less 2 (.inr (.inl rfl)) B b s st v val got sm W hC
  sends := fun s st v val got sm now W => moved_any s st v val got sm now W
  along := fun now x m W h1 h2 h3 => asIs_any now x m W
  rests := fun st W => always_any st W
theorem prg3 (b : Nat) : Prg 3 60 61 101 63 69 65 #[.pointer (some ⟨b, 0, none⟩)] where
  c0 := Tryz.call60
  c1 := Tryz.call61
  c2 := Tryz.call101
  c3 := Tryz.call63
  c4 := Tryz.call69
  c5 := Tryz.call65
  start := fun s v W => fromSource_any s v W
  fold := fun a b W _ _ => less_any a b W
  value := fun s st v val got sm W B hC hv hg => better_less 3 (.inr (.inr rfl)) B b s st v val got sm W hC
  sends := fun s st v val got sm now W => movedS_any s st v val got sm now W
  along := fun now x m W h1 h2 h3 => one_any now x m W h1
  rests := fun st W => always_any st W
theorem prg4 (b : Nat) : Prg 4 70 71 101 67 68 65 #[.pointer (some ⟨b, 0, none⟩)] where
  c0 := Tryz.call70
  c1 := Tryz.call71
  c2 := Tryz.call101
  c3 := Tryz.call67
  c4 := Tryz.call68
  c5 := Tryz.call65
  start := fun s v W => mark_any s v W
  fold := fun a b W _ _ => greater_any a b W
  value := fun s st v val got sm W B hC hv hg => better_great B b s st v val got sm W hC
  sends := fun s st v val got sm now W => moved_any s st v val got sm now W
  along := fun now x m W h1 h2 h3 => asIs_any now x m W
  rests := fun st W => always_any st W
theorem of1 (w : World) : Calls Tryz.prog 35 #[.int .i64 1] w (OfPost 1 w) := by
  go_enter Tryz.func35, Tryz.ntmps35
  go_wp2
  refine bodyPost_ret (v := .tuple #[.agg #[.func (.func 60) #[] #[], .func (.func 61) #[] #[], .func (.func 101) #[] #[.pointer (some ⟨w.heap.size + 1, 0, none⟩)], .func (.func 63) #[] #[], .func (.func 64) #[] #[], .func (.func 65) #[] #[]], .bool true]) (by simp [results, Tryz.results35, go_sem]) rfl ?_
  exact ⟨((Below.refl _ _).alloc (Nat.le_refl _) _).alloc (by simp) _, _, _, _, _, _, _, _, rfl, prg1 _, .inr ⟨_, rfl, by simp, by simp, by simp [go_sem]⟩⟩
theorem of2 (w : World) : Calls Tryz.prog 35 #[.int .i64 2] w (OfPost 2 w) := by
  go_enter Tryz.func35, Tryz.ntmps35
  go_wp2
  refine bodyPost_ret (v := .tuple #[.agg #[.func (.func 66) #[] #[], .func (.func 61) #[] #[], .func (.func 101) #[] #[.pointer (some ⟨w.heap.size + 1, 0, none⟩)], .func (.func 67) #[] #[], .func (.func 68) #[] #[], .func (.func 65) #[] #[]], .bool true]) (by simp [results, Tryz.results35, go_sem]) rfl ?_
  exact ⟨((Below.refl _ _).alloc (Nat.le_refl _) _).alloc (by simp) _, _, _, _, _, _, _, _, rfl, prg2 _, .inr ⟨_, rfl, by simp, by simp, by simp [go_sem]⟩⟩
theorem of3 (w : World) : Calls Tryz.prog 35 #[.int .i64 3] w (OfPost 3 w) := by
  go_enter Tryz.func35, Tryz.ntmps35
  go_wp2
  refine bodyPost_ret (v := .tuple #[.agg #[.func (.func 60) #[] #[], .func (.func 61) #[] #[], .func (.func 101) #[] #[.pointer (some ⟨w.heap.size + 1, 0, none⟩)], .func (.func 63) #[] #[], .func (.func 69) #[] #[], .func (.func 65) #[] #[]], .bool true]) (by simp [results, Tryz.results35, go_sem]) rfl ?_
  exact ⟨((Below.refl _ _).alloc (Nat.le_refl _) _).alloc (by simp) _, _, _, _, _, _, _, _, rfl, prg3 _, .inr ⟨_, rfl, by simp, by simp, by simp [go_sem]⟩⟩
theorem of4 (w : World) : Calls Tryz.prog 35 #[.int .i64 4] w (OfPost 4 w) := by
  go_enter Tryz.func35, Tryz.ntmps35
  go_wp2
  refine bodyPost_ret (v := .tuple #[.agg #[.func (.func 70) #[] #[], .func (.func 71) #[] #[], .func (.func 101) #[] #[.pointer (some ⟨w.heap.size + 1, 0, none⟩)], .func (.func 67) #[] #[], .func (.func 68) #[] #[], .func (.func 65) #[] #[]], .bool true]) (by simp [results, Tryz.results35, go_sem]) rfl ?_
  exact ⟨((Below.refl _ _).alloc (Nat.le_refl _) _).alloc (by simp) _, _, _, _, _, _, _, _, rfl, prg4 _, .inr ⟨_, rfl, by simp, by simp, by simp [go_sem]⟩⟩
theorem of5 (w : World) : Calls Tryz.prog 35 #[.int .i64 5] w (OfPost 5 w) := by
  go_enter Tryz.func35, Tryz.ntmps35
  go_wp2
  refine bodyPost_ret (v := .tuple #[.agg #[.func (.func 72) #[] #[], .func (.func 73) #[] #[], .func (.func 74) #[] #[], .func (.func 75) #[] #[], .func (.func 76) #[] #[], .func (.func 77) #[] #[]], .bool true]) (by simp [results, Tryz.results35, go_sem]) rfl ?_
  exact ⟨below_alloc _ _, _, _, _, _, _, _, _, rfl, prg5, .inl rfl⟩
theorem of_yes (p : Int) (w : World) (h1 : 1 ≤ p) (h2 : p ≤ 5) : Calls Tryz.prog 35 #[.int .i64 p] w (OfPost p w) := by
  obtain rfl | rfl | rfl | rfl | rfl : p = 1 ∨ p = 2 ∨ p = 3 ∨ p = 4 ∨ p = 5 := by omega
  · exact of1 w
  · exact of2 w
  · exact of3 w
  · exact of4 w
  · exact of5 w
theorem of_no (p : Int) (w : World) (h : p < 1 ∨ 5 < p) : Calls Tryz.prog 35 #[.int .i64 p] w fun e w' =>
    e = .returned (.tuple #[.agg #[.nilFunc, .nilFunc, .nilFunc, .nilFunc, .nilFunc, .nilFunc], .bool false]) ∧ Below w.heap.size w w' := by
  have h1 : (p == 1) = false := by simp; omega
  have h2 : (p == 2) = false := by simp; omega
  have h3 : (p == 3) = false := by simp; omega
  have h4 : (p == 4) = false := by simp; omega
  have h5 : (p == 5) = false := by simp; omega
  clear h
  go_enter Tryz.func35, Tryz.ntmps35
  go_wp2
  refine bodyPost_ret (v := .tuple #[.agg #[.nilFunc, .nilFunc, .nilFunc, .nilFunc, .nilFunc, .nilFunc], .bool false]) (by simp [results, Tryz.results35, go_sem]) rfl ?_
  exact ⟨rfl, below_alloc _ _⟩
end Go.Proofs.YtpgdddjjjfkneaaGreatDoor

/-
  Contracts of isVertex, Check, the document's own Check, programFor. No condition.
-/
namespace Go.Proofs.YtpgdddjjjfkneaaGreatDoor
open Go.ChangeShapes Go.WideShapes Go.ChangeAt Go.RowKit
set_option linter.unusedVariables false

theorem isV_any (N : Int) (A : Option Addr) (n c : Nat) (v : Int) (w : World) (b : Bool) (hb : b = decide (0 ≤ v ∧ v < N)) :
    Calls Tryz.prog 36 #[.agg #[.int .i64 N, .slice A n c], .int .i64 v] w fun e w' => e = .returned (.bool b) ∧ Below w.heap.size w w' := by
  by_cases h : 0 ≤ v
  · obtain rfl : b = decide (v < N) := by rw [hb]; simp [h]
    clear hb
    go_enter Tryz.func36, Tryz.ntmps36
    go_wp2
    go_ret
    exact ⟨rfl, below_alloc _ _⟩
  · obtain rfl : b = false := by rw [hb]; simp; omega
    clear hb
    go_enter Tryz.func36, Tryz.ntmps36
    go_wp2
    go_ret
    exact ⟨rfl, below_alloc _ _⟩
/-- The graph and the job stand boxed in the first two blocks behind w; all that lay in w lies there still. -/
structure Bx (w : World) (N : Int) (A : Option Addr) (n c : Nat) (p s l q : Int) (W : World) : Prop where
  z : w.heap.size + 2 ≤ W.heap.size
  g0 : W.cell? ⟨w.heap.size, 0, none⟩ = some (.int .i64 N)
  g1 : W.cell? ⟨w.heap.size, 1, none⟩ = some (.slice A n c)
  j0 : W.cell? ⟨w.heap.size + 1, 0, none⟩ = some (.int .i64 p)
  j1 : W.cell? ⟨w.heap.size + 1, 1, none⟩ = some (.int .i64 s)
  j2 : W.cell? ⟨w.heap.size + 1, 2, none⟩ = some (.int .i64 l)
  j3 : W.cell? ⟨w.heap.size + 1, 3, none⟩ = some (.int .i64 q)
  bl : Below w.heap.size w W
theorem Bx.init (w : World) (N : Int) (A : Option Addr) (n c : Nat) (p s l q : Int) : Bx w N A n c p s l q ((w.alloc (.cells #[.int .i64 N, .slice A n c] 27)).alloc (.cells #[.int .i64 p, .int .i64 s, .int .i64 l, .int .i64 q] 23)) :=
  ⟨by simp, by simp [go_sem], by simp [go_sem], by simp [go_sem], by simp [go_sem], by simp [go_sem], by simp [go_sem], ((Below.refl _ _).alloc (Nat.le_refl _) _).alloc (by simp) _⟩
theorem Bx.next {w : World} {N : Int} {A : Option Addr} {n c : Nat} {p s l q : Int} {W W' : World} (h : Bx w N A n c p s l q W) (hb : Below W.heap.size W W') : Bx w N A n c p s l q W' :=
  have k : ∀ b o, b < w.heap.size + 2 → W'.cell? ⟨b, o, none⟩ = W.cell? ⟨b, o, none⟩ := fun b o hl => hb.cell (p := ⟨b, o, none⟩) (Nat.lt_of_lt_of_le hl h.z)
  ⟨Nat.le_trans h.z hb.size, (k _ _ (by omega)).trans h.g0, (k _ _ (by omega)).trans h.g1, (k _ _ (by omega)).trans h.j0, (k _ _ (by omega)).trans h.j1, (k _ _ (by omega)).trans h.j2, (k _ _ (by omega)).trans h.j3,
    h.bl.trans (hb.mono (by have := h.z; omega))⟩
theorem Bx.alloc {w : World} {N : Int} {A : Option Addr} {n c : Nat} {p s l q : Int} {W : World} (h : Bx w N A n c p s l q W) (o : Obj) : Bx w N A n c p s l q (W.alloc o) := h.next (below_alloc W o)
theorem badJ_not {N p s l q : Int} (h : ¬ badJ N p s l q) : (1 ≤ p ∧ p ≤ 5) ∧ (0 ≤ s ∧ s < N) ∧ ¬ l < 0 ∧ ¬ 40 < l ∧ ¬ q < 1 ∧ ¬ 6 < q := by unfold badJ at h; omega
set_option maxHeartbeats 1000000 in
theorem jcheck_any (N : Int) (A : Option Addr) (n c : Nat) (es : List Ed) (p s l q : Int) (w : World) (hA : Lies w w.heap.size 3 A n (ec es)) (hnc : n ≤ c) (hn : n ≤ maxLen) :
    Calls Tryz.prog 17 #[.agg #[.int .i64 N, .slice A n c], .agg #[.int .i64 p, .int .i64 s, .int .i64 l, .int .i64 q]] w fun e w' => e = .returned (.int .i64 (jchk N es p s l q)) ∧ Below w.heap.size w w' := by
  have hbx := Bx.init w N A n c p s l q
  have hA1 := hA.next hbx.bl
  by_cases hg : chk N es = 0
  · by_cases hp : p < 1 ∨ 5 < p
    · have HR := Lib.hid (jchk_bad hg (show badJ N p s l q by unfold badJ; omega))
      have HG := Lib.hid hg
      have HP := Lib.hid hp
      have HBX := Lib.hid hbx
      clear hg hp hbx
      go_enter Tryz.func17, Tryz.ntmps17
      go_wp2_with fail
      refine (check_any N A n c es _ hA1 hnc hn).mono ?_
      rintro e w1 ⟨rfl, hb1⟩
      rw [HG.out]
      have hx1 := HBX.out.next hb1
      obtain ⟨z1, g0, g1, j0, j1, j2, j3, bl1⟩ := id hx1
      clear hb1 hA1 HBX
      go_wp2_with fail
      refine (of_no p _ HP.out).mono ?_
      rintro e w2 ⟨rfl, hb2⟩
      have H2 := Lib.hid ((hx1.next hb2).alloc (.cells #[.nilFunc, .nilFunc, .nilFunc, .nilFunc, .nilFunc, .nilFunc] 94)).bl
      clear hb2 hx1
      go_wp2_with fail
      go_ret
      exact ⟨ret_int HR.out.symm, H2.out⟩
    · have HP := Lib.hid (show 1 ≤ p ∧ p ≤ 5 by omega)
      have HG := Lib.hid hg
      have HBX := Lib.hid hbx
      by_cases hs : 0 ≤ s ∧ s < N
      · have HS := Lib.hid (show true = decide (0 ≤ s ∧ s < N) by simpa using hs)
        have HR := Lib.hid (show jchk N es p s l q = if l < 0 ∨ 40 < l ∨ q < 1 ∨ 6 < q then 1 else 0 by
          by_cases hb : badJ N p s l q
          · rw [jchk_bad hg hb, if_pos (by unfold badJ at hb; omega)]
          · rw [jchk_good hg hb, if_neg (by unfold badJ at hb; omega)])
        clear hg hp hs hbx
        go_enter Tryz.func17, Tryz.ntmps17
        go_wp2_with fail
        refine (check_any N A n c es _ hA1 hnc hn).mono ?_
        rintro e w1 ⟨rfl, hb1⟩
        rw [HG.out]
        have hx1 := HBX.out.next hb1
        obtain ⟨z1, g0, g1, j0, j1, j2, j3, bl1⟩ := id hx1
        clear hb1 hA1 HBX
        go_wp2_with fail
        refine (of_yes p _ HP.out.1 HP.out.2).mono ?_
        rintro e w2 ⟨hb2, k0, k1, k2, k3, k4, k5, y, rfl, _⟩
        have H2 := Lib.hid ((hx1.next hb2).alloc (.cells #[.func (.func k0) #[] #[], .func (.func k1) #[] #[], .func (.func k2) #[] y, .func (.func k3) #[] #[], .func (.func k4) #[] #[], .func (.func k5) #[] #[]] 94))
        clear z1 g0 g1 j0 j1 j2 j3 bl1
        obtain ⟨z1, g0, g1, j0, j1, j2, j3, bl1⟩ := H2.out
        clear hb2 hx1
        go_wp2_with fail
        refine (isV_any N A n c s _ true HS.out).mono ?_
        rintro e w3 ⟨rfl, hb3⟩
        have hx3 := H2.out.next hb3
        clear z1 g0 g1 j0 j1 j2 j3 bl1 H2 hb3
        obtain ⟨z1, g0, g1, j0, j1, j2, j3, bl1⟩ := hx3
        have HB3 := Lib.hid bl1
        clear bl1
        by_cases q1 : l < 0
        · go_wp2_with fail
          go_ret
          exact ⟨ret_int (by rw [HR.out, if_pos (by omega)]), HB3.out⟩
        · by_cases q2 : 40 < l
          · go_wp2_with fail
            go_ret
            exact ⟨ret_int (by rw [HR.out, if_pos (by omega)]), HB3.out⟩
          · by_cases q3 : q < 1
            · go_wp2_with fail
              go_ret
              exact ⟨ret_int (by rw [HR.out, if_pos (by omega)]), HB3.out⟩
            · by_cases q4 : 6 < q
              · go_wp2_with fail
                go_ret
                exact ⟨ret_int (by rw [HR.out, if_pos (by omega)]), HB3.out⟩
              · go_wp2_with fail
                go_ret
                exact ⟨ret_int (by rw [HR.out, if_neg (by omega)]), HB3.out⟩
      · have HS := Lib.hid (show false = decide (0 ≤ s ∧ s < N) by simpa using hs)
        have HR := Lib.hid (jchk_bad hg (show badJ N p s l q by unfold badJ; omega))
        clear hg hp hs hbx
        go_enter Tryz.func17, Tryz.ntmps17
        go_wp2_with fail
        refine (check_any N A n c es _ hA1 hnc hn).mono ?_
        rintro e w1 ⟨rfl, hb1⟩
        rw [HG.out]
        have hx1 := HBX.out.next hb1
        obtain ⟨z1, g0, g1, j0, j1, j2, j3, bl1⟩ := id hx1
        clear hb1 hA1 HBX
        go_wp2_with fail
        refine (of_yes p _ HP.out.1 HP.out.2).mono ?_
        rintro e w2 ⟨hb2, k0, k1, k2, k3, k4, k5, y, rfl, _⟩
        have H2 := Lib.hid ((hx1.next hb2).alloc (.cells #[.func (.func k0) #[] #[], .func (.func k1) #[] #[], .func (.func k2) #[] y, .func (.func k3) #[] #[], .func (.func k4) #[] #[], .func (.func k5) #[] #[]] 94))
        clear z1 g0 g1 j0 j1 j2 j3 bl1
        obtain ⟨z1, g0, g1, j0, j1, j2, j3, bl1⟩ := H2.out
        clear hb2 hx1
        go_wp2_with fail
        refine (isV_any N A n c s _ false HS.out).mono ?_
        rintro e w3 ⟨rfl, hb3⟩
        have HB3 := Lib.hid (H2.out.next hb3).bl
        clear z1 g0 g1 j0 j1 j2 j3 bl1 H2 hb3
        go_wp2_with fail
        go_ret
        exact ⟨ret_int HR.out.symm, HB3.out⟩
  · have HR := Lib.hid (jchk_graph (p := p) (s := s) (l := l) (q := q) hg)
    have h1 : (chk N es != 0) = true := by simpa using hg
    clear hg
    have HBX := Lib.hid hbx
    clear hbx
    go_enter Tryz.func17, Tryz.ntmps17
    go_wp2_with fail
    refine (check_any N A n c es _ hA1 hnc hn).mono ?_
    rintro e w1 ⟨rfl, hb1⟩
    have H1 := Lib.hid (HBX.out.next hb1).bl
    clear hb1
    go_wp2_with fail
    go_ret
    exact ⟨ret_int HR.out.symm, H1.out⟩
set_option maxHeartbeats 1000000 in
/-- The document's own Check of a job. -/
theorem rjcheck_any (N : Int) (A : Option Addr) (n c : Nat) (es : List Ed) (p s l q : Int) (w : World) (hA : Lies w w.heap.size 3 A n (ec es)) (hnc : n ≤ c) (hn : n ≤ maxLen) :
    Calls Tryz.prog 7 #[.agg #[.int .i64 N, .slice A n c], .agg #[.int .i64 p, .int .i64 s, .int .i64 l, .int .i64 q]] w fun e w' => e = .returned (.int .i64 (jchk N es p s l q)) ∧ Below w.heap.size w w' := by
  have hbx := Bx.init w N A n c p s l q
  have hA1 := hA.next hbx.bl
  by_cases hg : chk N es = 0
  · have HG := Lib.hid hg
    have HBX := Lib.hid hbx
    have HR := Lib.hid (show jchk N es p s l q = if badJ N p s l q then 1 else 0 by
      by_cases hb : badJ N p s l q
      · rw [jchk_bad hg hb, if_pos hb]
      · rw [jchk_good hg hb, if_neg hb])
    clear hg hbx
    go_enter Tryz.func7, Tryz.ntmps7
    go_wp2_with fail
    refine (rcheck_any N A n c es _ hA1 hnc hn).mono ?_
    rintro e w1 ⟨rfl, hb1⟩
    rw [HG.out]
    have hx1 := HBX.out.next hb1
    obtain ⟨z1, g0, g1, j0, j1, j2, j3, bl1⟩ := hx1
    have H1 := Lib.hid bl1
    clear hb1 hA1 HBX bl1
    by_cases q1 : p < 1
    · go_wp2_with fail
      go_ret
      exact ⟨ret_int (by rw [HR.out, if_pos (by unfold badJ; omega)]), H1.out⟩
    by_cases q2 : 5 < p
    · go_wp2_with fail
      go_ret
      exact ⟨ret_int (by rw [HR.out, if_pos (by unfold badJ; omega)]), H1.out⟩
    by_cases q3 : s < 0
    · go_wp2_with fail
      go_ret
      exact ⟨ret_int (by rw [HR.out, if_pos (by unfold badJ; omega)]), H1.out⟩
    by_cases q4 : N ≤ s
    · go_wp2_with fail
      go_ret
      exact ⟨ret_int (by rw [HR.out, if_pos (by unfold badJ; omega)]), H1.out⟩
    by_cases q5 : l < 0
    · go_wp2_with fail
      go_ret
      exact ⟨ret_int (by rw [HR.out, if_pos (by unfold badJ; omega)]), H1.out⟩
    by_cases q6 : 40 < l
    · go_wp2_with fail
      go_ret
      exact ⟨ret_int (by rw [HR.out, if_pos (by unfold badJ; omega)]), H1.out⟩
    by_cases q7 : q < 1
    · go_wp2_with fail
      go_ret
      exact ⟨ret_int (by rw [HR.out, if_pos (by unfold badJ; omega)]), H1.out⟩
    by_cases q8 : 6 < q
    · go_wp2_with fail
      go_ret
      exact ⟨ret_int (by rw [HR.out, if_pos (by unfold badJ; omega)]), H1.out⟩
    · go_wp2_with fail
      go_ret
      exact ⟨ret_int (by rw [HR.out, if_neg (by unfold badJ; omega)]), H1.out⟩
  · have HR := Lib.hid (jchk_graph (p := p) (s := s) (l := l) (q := q) hg)
    have h1 : (chk N es != 0) = true := by simpa using hg
    clear hg
    have HBX := Lib.hid hbx
    clear hbx
    go_enter Tryz.func7, Tryz.ntmps7
    go_wp2_with fail
    refine (rcheck_any N A n c es _ hA1 hnc hn).mono ?_
    rintro e w1 ⟨rfl, hb1⟩
    have H1 := Lib.hid (HBX.out.next hb1).bl
    clear hb1
    go_wp2_with fail
    go_ret
    exact ⟨ret_int HR.out.symm, H1.out⟩
end Go.Proofs.YtpgdddjjjfkneaaGreatDoor


