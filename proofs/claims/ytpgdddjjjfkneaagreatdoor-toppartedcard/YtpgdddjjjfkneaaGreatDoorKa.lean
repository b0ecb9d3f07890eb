import Derived.WalkKit
import Derived.Below
import Derived.Lib.Hide
import Derived.Maps.AppendAt
import Derived.Lib.AppendStr
import Derived.Laws.IdiomStrings
import Derived.Laws.Slices
import Derived.Deep.Draws
import Derived.Deep.QuietTactic
import Derived.StillTailTactics
import Derived.Lib.ItoaNum
import Derived.Lib.Small
import Derived.Lib.Strings
import Derived.Test.YtpgdddjjjfkneaaGreatDoorChecked
import Derived.ProofKit
import Derived.OpenShut
import Derived.IntWalk
import Derived.Lib.Mul64
import Derived.Laws.Bits64b
/-
  Words for memory, over any program: a slice that reads as a list of cells ('Lies'), bytes as cells ('bc'), a slice of the call's own that is appended to, cut and converted. No condition.
-/
namespace Go.Proofs.YtpgdddjjjfkneaaGreatDoor
open Go.RowKit
set_option linter.unusedVariables false

theorem ret_int {k : IntKind} {a b : Int} (h : a = b) : Ending.returned (.int k a) = .returned (.int k b) := by rw [h]
/-- Bytes as cells. -/
def bc (l : List UInt8) : List Value := l.map fun b => Value.int .u8 (b.toNat : Int)
/-- The slice at A, of n elements of s cells each, reads as the cells xs; they lie below block B. -/
def Lies (w : World) (B s : Nat) (A : Option Addr) (n : Nat) (xs : List Value) : Prop :=
  xs.length = n * s ∧ ∀ j u, xs[j]? = some u → ∃ ad, A = some ad ∧ ad.block < B ∧ w.cell? (ad.add j) = some u
theorem block_add (a : Addr) (n : Nat) : (a.add n).block = a.block := by unfold Addr.add; split <;> rfl
theorem add_add (a : Addr) (i j : Nat) : (a.add i).add j = a.add (i + j) := by
  unfold Addr.add
  by_cases hi : i = 0 <;> by_cases hj : j = 0 <;> simp [hi, hj, Nat.add_assoc]
theorem add_zero (a : Addr) : a.add 0 = a := by unfold Addr.add; simp
section
variable {w w' : World} {B B' s n : Nat} {A : Option Addr} {xs : List Value}

theorem Lies.keep (h : Lies w B s A n xs) (hk : ∀ p : Addr, p.block < B → w'.cell? p = w.cell? p) : Lies w' B s A n xs :=
  ⟨h.1, fun j u hu => by
    obtain ⟨ad, e, hb, hc⟩ := h.2 j u hu
    exact ⟨ad, e, hb, (hk _ (by rw [block_add]; exact hb)).trans hc⟩⟩
theorem Lies.more (h : Lies w B s A n xs) (hB : B ≤ B') : Lies w B' s A n xs :=
  ⟨h.1, fun j u hu => by
    obtain ⟨ad, e, hb, hc⟩ := h.2 j u hu
    exact ⟨ad, e, by omega, hc⟩⟩
theorem Lies.below (h : Lies w B s A n xs) (hb : Below B w w') : Lies w' B s A n xs := h.keep fun _ hp => hb.cell hp
theorem Lies.drewN (h : Lies w B s A n xs) (k : Nat) : Lies (w.drewN k) B s A n xs := h
/-- Of the world as it stands behind something that made memory alone. -/
theorem Lies.next (h : Lies w w.heap.size s A n xs) (hb : Below w.heap.size w w') : Lies w' w'.heap.size s A n xs := (h.below hb).more hb.size
theorem Lies.of_own {base : Nat} {e : TypeId} {c : Nat} (h : w.ownsRow base e s (.slice A n c) n xs) : Lies w w.heap.size s A n xs := by
  refine ⟨h.1, fun j u hu => ?_⟩
  rcases h.2 with ⟨hv, rfl⟩ | ⟨g, cap, cur, hv, hb, hg, rest⟩
  · have : xs = [] := List.eq_nil_of_length_eq_zero (by simpa using h.1)
    subst this
    simp at hu
  · injection hv with hA _ _
    subst hA
    exact ⟨_, rfl, (Array.getElem?_eq_some_iff.1 hg).1, h.cells (g := g) rfl j u hu⟩
theorem Lies.nil : Lies w B s none 0 [] := ⟨by simp, fun j u h => by simp at h⟩
end

theorem Lies.len {w : World} {B : Nat} {A : Option Addr} {n : Nat} {l : List UInt8} (h : Lies w B 1 A n (bc l)) : l.length = n := by
  have := h.1; unfold bc at this; simpa using this
section
variable {P : Program} (w : World)

/-- append onto a slice of the call's own: what is appended lies below B, nil or not. -/
theorem run_app (base : Nat) (t ty e : TypeId) (i : TypeInfo) (z : Value) (size bytes : Nat) (ht : P.underlying t = some (.slice e)) (hi : P.info? e = some i) (hz : i.zero = some z)
    (hsize : i.size = size) (hby : i.bytes = bytes) (hzs : z.cells.size = size) (hsz : 0 < size)
    (A : Option Addr) (n c : Nat) (xs : List Value) (hown : w.ownsRow base e size (.slice A n c) n xs)
    (B : Nat) (A2 : Option Addr) (m c2 : Nat) (news : List Value) (hl : Lies w B size A2 m news) (h1 : ∀ u ∈ news, u.oneCell' = true)
    (h63 : n + m ≤ maxLen) (hbytes : (n + m) * bytes ≤ 140737488355328) (hbase : base ≤ w.heap.size) :
    ∃ A' c' w', (Builtin.append_ #[t, t] ty #[.slice A n c, .slice A2 m c2]).run P w = .ok (.slice A' (n + m) c') w' ∧ w'.ownsRow base e size (.slice A' (n + m) c') (n + m) (xs ++ news) ∧ Below base w w' ∧ w.grownBy w' (Value.slice A n c).ownBlock ∧
      ((Value.slice A' (n + m) c').ownBlock = (Value.slice A n c).ownBlock ∨ (Value.slice A' (n + m) c').ownBlock = some w.heap.size) := by
  have fin : ∀ v' w', w'.ownsRow base e size v' (n + m) (xs ++ news) → w.grownBy w' (Value.slice A n c).ownBlock → Below base w w' ∧ ∃ A' c', v' = .slice A' (n + m) c' := by
    intro v' w' ho hg
    refine ⟨(Below.refl base w).grown hg hbase (fun k hk => (hown.lt k hk).1), ?_⟩
    rcases ho.2 with ⟨rfl, h0⟩ | ⟨g, cap, cur, rfl, _⟩
    · rw [h0]; exact ⟨none, 0, rfl⟩
    · exact ⟨_, cap, rfl⟩
  cases A2 with
  | none =>
    have hnil : news = [] := by
      cases news with
      | nil => rfl
      | cons u r => obtain ⟨ad, e, _⟩ := hl.2 0 u rfl; cases e
    subst hnil
    have hm : m = 0 := by
      have := hl.1
      simp only [List.length_nil] at this
      rcases Nat.mul_eq_zero.1 this.symm with h | h
      · exact h
      · omega
    subst hm
    have hr : (Builtin.append_ #[t, t] ty #[.slice A n c, .slice none 0 c2]).run P w = .ok (.slice A n c) w := by
      rcases hown.2 with ⟨hv, rfl⟩ | ⟨g, cap, cur, hv, _, _, hnc, _⟩
      · injection hv with e1 e2 e3
        subst e1 e3
        simp [Builtin.append_, run_underlying ht, sizeOf, typeInfo, hi, Builtin.lenOf, Builtin.firstCells]
      · injection hv with e1 e2 e3
        subst e1 e3
        simp [Builtin.append_, run_underlying ht, sizeOf, typeInfo, hi, Builtin.lenOf, Builtin.firstCells, hnc, storeCells]
    exact ⟨A, c, w, by simpa using hr, by simpa using hown, Below.refl _ _, World.grownBy.refl w _, .inl rfl⟩
  | some ad =>
    have hcells : ∀ j u, news[j]? = some u → w.cell? (ad.add j) = some u := by
      intro j u hu
      obtain ⟨ad', e, _, hc⟩ := hl.2 j u hu
      injection e with e
      subst e
      exact hc
    obtain ⟨v', w', hrun, h2, h3, _, h5⟩ := run_append_own_at (P := P) w base t ty e i z size bytes ht hi hz hsize hby hzs hsz (.slice A n c) n xs hown ad m c2 news hl.1 hcells h1 h63 hbytes hbase
    obtain ⟨hb, A', c', rfl⟩ := fin v' w' h2 h3
    exact ⟨A', c', w', hrun, h2, hb, h3, h5⟩
theorem wpList_app {ops : Array Oper} {rest : List Oper} {o : Oper} {a : Act} {Q : Exit → Act → World → Prop} (hgd : o.guard = none) (s x : Operand) (t : TypeId)
    (ho : o.op = .call { callee := .builtin .append, args := #[s, x], argTypes := #[t, t] })
    (base : Nat) (e : TypeId) (i : TypeInfo) (z : Value) (size bytes : Nat) (ht : P.underlying t = some (.slice e)) (hi : P.info? e = some i) (hz : i.zero = some z)
    (hsize : i.size = size) (hby : i.bytes = bytes) (hzs : z.cells.size = size) (hsz : 0 < size)
    (A : Option Addr) (n c : Nat) (xs : List Value) (hs : a.eval s = .slice A n c) (hown : w.ownsRow base e size (.slice A n c) n xs)
    (B : Nat) (A2 : Option Addr) (m c2 : Nat) (news : List Value) (hx : a.eval x = .slice A2 m c2) (hl : Lies w B size A2 m news) (h1 : ∀ u ∈ news, u.oneCell' = true)
    (k : Nat) (ys : List Value) (hk : n + m = k) (hy : xs ++ news = ys) (h63 : k ≤ maxLen) (hbytes : k * bytes ≤ 140737488355328) (hbase : base ≤ w.heap.size)
    (h : ∀ A' c' w', w'.ownsRow base e size (.slice A' k c') k ys → Below base w w' → wpList P ops Q rest (a.put o.dst (.slice A' k c')) w') :
    wpList P ops Q (o :: rest) a w := by
  subst hk hy
  refine wpList_plain hgd fun K hK => ?_
  obtain ⟨A', c', w', hr, h2, h3, _, _⟩ := run_app (P := P) w base t o.type e i z size bytes ht hi hz hsize hby hzs hsz A n c xs hown B A2 m c2 news hl h1 h63 hbytes hbase
  unfold Oper.wp execOp
  simp only [ho, resolve, invoke, builtin, Sem.run_bind, Sem.run_pure, Result.andThen_ok, List.map_toArray, List.map_cons, List.map_nil, hs, hx, hr]
  exact hK _ _ (h A' c' w' h2 h3)
end

theorem below_to_drewN {B : Nat} {w w' : World} (h : Below B w w') (q : Nat) : Below B w (w'.drewN q) := ⟨h.os, h.tape, h.output, h.size, h.block⟩
theorem own_next {w w' : World} {base s n : Nat} {e : TypeId} {v : Value} {xs : List Value} (h : w.ownsRow base e s v n xs) (hb : Below w.heap.size w w') : w'.ownsRow base e s v n xs :=
  h.kept (row := none) ⟨hb.os, hb.tape, hb.output, hb.size, fun k hk _ => hb.block k hk⟩ (by cases v.ownBlock <;> simp)
theorem _root_.Go.World.ownsRow.lower {w : World} {base base' s n : Nat} {e : TypeId} {v : Value} {xs : List Value} (h : w.ownsRow base e s v n xs) (hb : base' ≤ base) : w.ownsRow base' e s v n xs := by
  refine ⟨h.1, ?_⟩
  rcases h.2 with h2 | ⟨g, cap, cur, hv, hg, r⟩
  · exact .inl h2
  · exact .inr ⟨g, cap, cur, hv, Nat.le_trans hb hg, r⟩
theorem own_empty (w : World) (e : TypeId) (base : Nat) (hb : base ≤ w.heap.size) : (w.alloc (.cells #[] e)).ownsRow base e 1 (.slice (some ⟨w.heap.size, 0, none⟩) 0 0) 0 [] :=
  ⟨rfl, .inr ⟨w.heap.size, 0, #[], rfl, hb, heap_alloc_new w _, Nat.le_refl _, Nat.zero_le _, rfl, rfl⟩⟩
theorem below_alloc (w : World) (o : Obj) : Below w.heap.size w (w.alloc o) := (Below.refl _ _).alloc (Nat.le_refl _) o
theorem own_cap {w : World} {base s n c : Nat} {e : TypeId} {A : Option Addr} {xs : List Value} (h : w.ownsRow base e s (.slice A n c) n xs) : n ≤ c := by
  rcases h.2 with ⟨hv, h0⟩ | ⟨g, cap, cur, hv, _, _, h3, _⟩
  · omega
  · injection hv with _ _ e3; omega
attribute [local irreducible] wpStill in
theorem still_tail {P : Program} {id : Nat} {Q : Exit → Act → World → Prop} {a : Act} {w : World} {l : List Oper} (n : Nat) (hm : P.follows .mixedOrders = true) (hB : Region.lexTailB .any l.toArray n = true)
    (h : wpStill P l.toArray w.drew (fun a' => wpList P l.toArray Q (l.drop n) a' w.drew) (l.take n) a) : (Code.region id l.toArray true).wp P Q a w := wp_region_still_tail n hm hB h
/-- Two slices of the call's own whose elements are of different types never share a row. -/
theorem own_apart {w w' : World} {b b' s s' n n' : Nat} {e e' : TypeId} {v v' : Value} {xs xs' : List Value} (h : w.ownsRow b e s v n xs) (h' : w.ownsRow b' e' s' v' n' xs') (hg : w.grownBy w' v'.ownBlock) (hne : e ≠ e') :
    w'.ownsRow b e s v n xs := by
  refine h.kept hg ?_
  rcases h.2 with ⟨rfl, _⟩ | ⟨g, cap, cur, rfl, _, hh, _⟩
  · exact .inl rfl
  · right
    rcases h'.2 with ⟨rfl, _⟩ | ⟨g', cap', cur', rfl, _, hh', _⟩
    · simp [Value.ownBlock]
    · intro e1
      have : g = g' := by simpa [Value.ownBlock] using e1
      subst this
      rw [hh] at hh'
      injection hh' with hh'
      injection hh' with _ ht
      exact hne ht
theorem wpList_app2 {P : Program} (w : World) {ops : Array Oper} {rest : List Oper} {o : Oper} {a : Act} {Q : Exit → Act → World → Prop} (hgd : o.guard = none) (s x : Operand) (t : TypeId)
    (ho : o.op = .call { callee := .builtin .append, args := #[s, x], argTypes := #[t, t] })
    (base : Nat) (e : TypeId) (i : TypeInfo) (z : Value) (size bytes : Nat) (ht : P.underlying t = some (.slice e)) (hi : P.info? e = some i) (hz : i.zero = some z)
    (hsize : i.size = size) (hby : i.bytes = bytes) (hzs : z.cells.size = size) (hsz : 0 < size)
    (A : Option Addr) (n c : Nat) (xs : List Value) (hs : a.eval s = .slice A n c) (hown : w.ownsRow base e size (.slice A n c) n xs)
    (B : Nat) (A2 : Option Addr) (m c2 : Nat) (news : List Value) (hx : a.eval x = .slice A2 m c2) (hl : Lies w B size A2 m news) (h1 : ∀ u ∈ news, u.oneCell' = true)
    (k : Nat) (ys : List Value) (hk : n + m = k) (hy : xs ++ news = ys) (h63 : k ≤ maxLen) (hbytes : k * bytes ≤ 140737488355328) (hbase : base ≤ w.heap.size)
    (h : ∀ A' c' w', w'.ownsRow base e size (.slice A' k c') k ys → Below base w w' → w.grownBy w' (Value.slice A n c).ownBlock → wpList P ops Q rest (a.put o.dst (.slice A' k c')) w') :
    wpList P ops Q (o :: rest) a w := by
  subst hk hy
  refine wpList_plain hgd fun K hK => ?_
  obtain ⟨A', c', w', hr, h2, h3, h4, _⟩ := run_app (P := P) w base t o.type e i z size bytes ht hi hz hsize hby hzs hsz A n c xs hown B A2 m c2 news hl h1 h63 hbytes hbase
  unfold Oper.wp execOp
  simp only [ho, resolve, invoke, builtin, Sem.run_bind, Sem.run_pure, Result.andThen_ok, List.map_toArray, List.map_cons, List.map_nil, hs, hx, hr]
  exact hK _ _ (h A' c' w' h2 h3 h4)
end Go.Proofs.YtpgdddjjjfkneaaGreatDoor

/-
  Plain mathematics of graphs, their edges and their texts. No condition.
-/
namespace Go.Proofs.YtpgdddjjjfkneaaGreatDoor
set_option linter.unusedVariables false

/-- An edge: From, To, W. -/
abbrev Ed := Int × Int × Int
def noEd : Ed := (0, 0, 0)
/-- The edge at a place. -/
def eAt (es : List Ed) (k : Nat) : Ed := es.getD k noEd
/-- What is wrong with an edge by itself. -/
def edge1 (N a b c : Int) : Int := if a < 0 ∨ N ≤ a ∨ b < 0 ∨ N ≤ b then 4 else if c < 0 ∨ 4611686018427387904 < c then 1 else 0
/-- The order of two edges. -/
def cmpE (a b : Ed) : Int := if Lib.compareInt a.1 b.1 = 0 then Lib.compareInt a.2.1 b.2.1 else Lib.compareInt a.1 b.1
/-- What is wrong with the edge at place k. -/
def errAt (N : Int) (es : List Ed) (k : Nat) : Int :=
  if edge1 N (eAt es k).1 (eAt es k).2.1 (eAt es k).2.2 = 0 then
    if k = 0 then 0 else if cmpE (eAt es k) (eAt es (k - 1)) = 0 then 5 else if cmpE (eAt es k) (eAt es (k - 1)) < 0 then 6 else 0
  else edge1 N (eAt es k).1 (eAt es k).2.1 (eAt es k).2.2
/-- The first thing that is wrong, from place k on, n places. -/
def firstErr (N : Int) (es : List Ed) : Nat → Nat → Int
  | _, 0 => 0
  | k, n + 1 => if errAt N es k = 0 then firstErr N es (k + 1) n else errAt N es k
/-- What is wrong with a graph. -/
def chk (N : Int) (es : List Ed) : Int := if N < 1 ∨ 24 < N then 1 else if 80 < es.length then 3 else firstErr N es 0 es.length
theorem firstErr_step (N : Int) (es : List Ed) (k : Nat) (h : k < es.length) :
    firstErr N es k (es.length - k) = if errAt N es k = 0 then firstErr N es (k + 1) (es.length - (k + 1)) else errAt N es k := by
  have : es.length - k = (es.length - (k + 1)) + 1 := by omega
  rw [this]; rfl
theorem firstErr_end (N : Int) (es : List Ed) (k : Nat) (h : es.length ≤ k) : firstErr N es k (es.length - k) = 0 := by
  have : es.length - k = 0 := by omega
  rw [this]; rfl
theorem chk_bad (N : Int) (es : List Ed) (h : N < 1 ∨ 24 < N) : chk N es = 1 := by unfold chk; rw [if_pos h]
theorem chk_many (N : Int) (es : List Ed) (h : ¬ (N < 1 ∨ 24 < N)) (h2 : 80 < es.length) : chk N es = 3 := by unfold chk; rw [if_neg h, if_pos h2]
theorem chk_else (N : Int) (es : List Ed) (h : ¬ (N < 1 ∨ 24 < N)) (h2 : ¬ 80 < es.length) : chk N es = firstErr N es 0 (es.length - 0) := by unfold chk; rw [if_neg h, if_neg h2]; rfl
theorem compareInt_lt {a b : Int} (h : a < b) : Lib.compareInt a b = -1 := by unfold Lib.compareInt; rw [if_pos h]
theorem compareInt_gt {a b : Int} (h : b < a) : Lib.compareInt a b = 1 := by unfold Lib.compareInt; rw [if_neg (by omega), if_pos h]
theorem compareInt_eq (a : Int) : Lib.compareInt a a = 0 := by unfold Lib.compareInt; simp
theorem compareInt_zero {a b : Int} : Lib.compareInt a b = 0 ↔ a = b := by
  unfold Lib.compareInt
  by_cases h1 : a < b
  · rw [if_pos h1]; omega
  · rw [if_neg h1]
    by_cases h2 : a > b
    · rw [if_pos h2]; omega
    · rw [if_neg h2]; omega
/-- The graph's edges are in order there. -/
def ltE (a b : Ed) : Prop := a.1 < b.1 ∨ (a.1 = b.1 ∧ a.2.1 < b.2.1)
theorem cmpE_zero {a b : Ed} : cmpE a b = 0 ↔ a.1 = b.1 ∧ a.2.1 = b.2.1 := by
  unfold cmpE
  by_cases h : Lib.compareInt a.1 b.1 = 0
  · rw [if_pos h, compareInt_zero]
    rw [compareInt_zero] at h
    exact ⟨fun x => ⟨h, x⟩, fun x => x.2⟩
  · rw [if_neg h]
    constructor
    · intro x; exact absurd x h
    · intro x; exact compareInt_zero.2 x.1
theorem cmpE_neg {a b : Ed} : cmpE a b < 0 ↔ ltE a b := by
  unfold cmpE ltE Lib.compareInt
  by_cases h1 : a.1 < b.1
  · simp [h1]
  · by_cases h2 : a.1 > b.1
    · simp [h1, h2]; omega
    · have h3 : a.1 = b.1 := by omega
      simp [h3]
      by_cases h4 : a.2.1 < b.2.1
      · simp [h4]
      · by_cases h5 : b.2.1 < a.2.1
        · simp [h4, h5]
        · simp [h4, h5]
theorem edge1_zero {N a b c : Int} : edge1 N a b c = 0 ↔ (0 ≤ a ∧ a < N ∧ 0 ≤ b ∧ b < N ∧ 0 ≤ c ∧ c ≤ 4611686018427387904) := by
  unfold edge1
  by_cases h : a < 0 ∨ N ≤ a ∨ b < 0 ∨ N ≤ b
  · rw [if_pos h]; constructor
    · intro x; cases x
    · intro x; omega
  · rw [if_neg h]
    by_cases h2 : c < 0 ∨ 4611686018427387904 < c
    · rw [if_pos h2]; constructor
      · intro x; cases x
      · intro x; omega
    · rw [if_neg h2]; constructor
      · intro _; omega
      · intro _; rfl
end Go.Proofs.YtpgdddjjjfkneaaGreatDoor

/-
  Contracts of the pieces under Mul: magnitude, bits.Mul64, product, signed.
-/
namespace Go.Proofs.YtpgdddjjjfkneaaGreatDoor
open Go.ChangeShapes Go.WideShapes Go.ChangeAt Go.RowKit
set_option linter.unusedVariables false

theorem neg_conv (a : Int) (a1 : -9223372036854775808 ≤ a) (a2 : a < 0) : IntKind.u64.wrap (-IntKind.u64.wrap a) = -a := by
  rw [IntKind.wrap_u64, IntKind.wrap_u64]; omega
set_option maxHeartbeats 400000 in
theorem mag_neg (a : Int) (w : World) (a1 : -9223372036854775808 ≤ a) (a2 : a < 0) :
    Calls Tryz.prog 139 #[.int .i64 a] w fun e w' => e = .returned (.int .u64 (-a)) ∧ w = w' := by
  go_enter Tryz.func139, Tryz.ntmps139
  go_wp2
  go_ret
  exact ⟨ret_int (neg_conv a a1 a2), rfl⟩
set_option maxHeartbeats 400000 in
theorem mag_pos (a : Int) (w : World) (a1 : 0 ≤ a) (a2 : a ≤ 9223372036854775807) :
    Calls Tryz.prog 139 #[.int .i64 a] w fun e w' => e = .returned (.int .u64 a) ∧ w = w' := by
  have a3 : ¬ a < 0 := by omega
  go_enter Tryz.func139, Tryz.ntmps139
  go_wp2
  go_ret
  exact ⟨rfl, rfl⟩
theorem mask32 (n : Nat) (h : n < 18446744073709551616) : bits .and .u64 (n : Int) 4294967295 = ((n % 4294967296 : Nat) : Int) := by
  have e := bits_and_u64_nat n 4294967295 h (by omega)
  rwa [show n &&& 4294967295 = n % 4294967296 from Nat.and_two_pow_sub_one_eq_mod n 32] at e
theorem shift32 (n : Nat) : (n : Int) / 4294967296 = ((n / 4294967296 : Nat) : Int) := by omega
theorem wrapIn (n : Nat) (h : n < 18446744073709551616) : IntKind.u64.wrap (n : Int) = (n : Int) := by rw [IntKind.wrap_u64]; omega
theorem wrapMul (a b : Nat) (h : a * b < 18446744073709551616) : IntKind.u64.wrap ((a : Int) * (b : Int)) = ((a * b : Nat) : Int) := by rw [← Int.natCast_mul]; exact wrapIn _ h
theorem wrapAdd (a b : Nat) (h : a + b < 18446744073709551616) : IntKind.u64.wrap ((a : Int) + (b : Int)) = ((a + b : Nat) : Int) := by rw [← Int.natCast_add]; exact wrapIn _ h
/-- The upper half, step by step as Go's text reckons it. -/
theorem hi_walk (x y : Nat) (hx : x < 18446744073709551616) (hy : y < 18446744073709551616) :
    IntKind.u64.wrap (IntKind.u64.wrap (IntKind.u64.wrap ((x : Int) / 4294967296 * ((y : Int) / 4294967296)) +
        IntKind.u64.wrap (IntKind.u64.wrap ((x : Int) / 4294967296 * bits .and .u64 (y : Int) 4294967295) + IntKind.u64.wrap (bits .and .u64 (x : Int) 4294967295 * bits .and .u64 (y : Int) 4294967295) / 4294967296) / 4294967296) +
      IntKind.u64.wrap (bits .and .u64 (IntKind.u64.wrap (IntKind.u64.wrap ((x : Int) / 4294967296 * bits .and .u64 (y : Int) 4294967295) + IntKind.u64.wrap (bits .and .u64 (x : Int) 4294967295 * bits .and .u64 (y : Int) 4294967295) / 4294967296)) 4294967295 +
        IntKind.u64.wrap (bits .and .u64 (x : Int) 4294967295 * ((y : Int) / 4294967296))) / 4294967296) = ((x * y / 18446744073709551616 : Nat) : Int) := by
  obtain ⟨g1, g2, g3, g4⟩ := Lib.mul64_hi x y hx hy
  have k1 := Lib.half_mul_le (a := x / 4294967296) (b := y / 4294967296) (by omega) (by omega)
  have k2 := Lib.half_mul_le (a := x / 4294967296) (b := y % 4294967296) (by omega) (by omega)
  have k3 := Lib.half_mul_le (a := x % 4294967296) (b := y / 4294967296) (by omega) (by omega)
  rw [mask32 x hx, mask32 y hy, shift32 x, shift32 y, wrapMul _ _ g1, wrapMul _ _ (by omega : x / 4294967296 * (y % 4294967296) < _), shift32, wrapAdd _ _ g2, mask32 _ g2, shift32,
    wrapMul _ _ (by omega : x % 4294967296 * (y / 4294967296) < _), wrapMul _ _ (by omega : x / 4294967296 * (y / 4294967296) < _), wrapAdd _ _ g3, shift32, wrapAdd _ _ (by omega), wrapAdd _ _ (by omega), g4]
theorem lo_walk (x y : Nat) : IntKind.u64.wrap ((x : Int) * (y : Int)) = ((x * y % 18446744073709551616 : Nat) : Int) := by
  rw [← Int.natCast_mul, IntKind.wrap_u64]; omega
theorem ret_two {k l : IntKind} {a b c d : Int} (h : a = b) (g : c = d) : Ending.returned (.tuple #[.int k a, .int l c]) = .returned (.tuple #[.int k b, .int l d]) := by rw [h, g]
set_option maxHeartbeats 400000 in
theorem mul64_any (x y : Nat) (w : World) (hx : x < 18446744073709551616) (hy : y < 18446744073709551616) :
    Calls Tryz.prog 143 #[.int .u64 x, .int .u64 y] w fun e w' => e = .returned (.tuple #[.int .u64 ((x * y / 18446744073709551616 : Nat) : Int), .int .u64 ((x * y % 18446744073709551616 : Nat) : Int)]) ∧ w = w' := by
  go_enter Tryz.func143, Tryz.ntmps143
  go_wp2
  go_ret2
  exact ⟨ret_two (hi_walk x y hx hy) (lo_walk x y), rfl⟩
/-- The same over Int. -/
theorem mul64_int (x y : Int) (w : World) (x1 : 0 ≤ x) (x2 : x < 18446744073709551616) (y1 : 0 ≤ y) (y2 : y < 18446744073709551616) :
    Calls Tryz.prog 143 #[.int .u64 x, .int .u64 y] w fun e w' => e = .returned (.tuple #[.int .u64 (x * y / 18446744073709551616), .int .u64 (x * y % 18446744073709551616)]) ∧ w = w' := by
  obtain ⟨m, rfl⟩ := Int.eq_ofNat_of_zero_le x1
  obtain ⟨n, rfl⟩ := Int.eq_ofNat_of_zero_le y1
  have h := mul64_any m n w (by omega) (by omega)
  rw [Int.natCast_ediv, Int.natCast_emod, Int.natCast_mul] at h
  exact h
set_option maxHeartbeats 400000 in
theorem product_any (x y : Int) (w : World) (x1 : 0 ≤ x) (x2 : x < 18446744073709551616) (y1 : 0 ≤ y) (y2 : y < 18446744073709551616) :
    Calls Tryz.prog 138 #[.int .u64 x, .int .u64 y] w fun e w' => e = .returned (.agg #[.int .u64 (x * y / 18446744073709551616), .int .u64 (x * y % 18446744073709551616)]) ∧ Below w.heap.size w w' := by
  have c := mul64_int x y (w := (w.alloc (.cells #[.int .u64 0, .int .u64 0] 186)).alloc (.cells #[.int .u64 0, .int .u64 0] 186)) x1 x2 y1 y2
  generalize x * y / 18446744073709551616 = hi at c ⊢
  generalize x * y % 18446744073709551616 = lo at c ⊢
  have C := Lib.hid c
  clear c
  go_enter Tryz.func138, Tryz.ntmps138
  go_wp2_with fail
  refine C.out.mono ?_
  rintro e w' ⟨rfl, rfl⟩
  go_wp2
  exact bodyPost_ret (v := .agg #[.int .u64 hi, .int .u64 lo]) (by simp [results, Tryz.results138, go_sem]) rfl ⟨rfl, ((Below.refl _ _).alloc (Nat.le_refl _) _).alloc (by simp) _⟩
set_option maxHeartbeats 400000 in
theorem signed_far (hi lo : Int) (b : Bool) (w : World) (h : 0 < hi) :
    Calls Tryz.prog 137 #[.agg #[.int .u64 hi, .int .u64 lo], .bool b] w fun e w' => e = .returned (.tuple #[.int .i64 0, .bool false]) ∧ Below w.heap.size w w' := by
  have hh : (hi != 0) = true := by simp; omega
  go_enter Tryz.func137, Tryz.ntmps137
  go_wp2
  go_ret2
  exact ⟨rfl, below_alloc _ _⟩
theorem ret_ok {a b : Int} {c : Bool} (h : a = b) : Ending.returned (.tuple #[.int .i64 a, .bool c]) = .returned (.tuple #[.int .i64 b, .bool c]) := by rw [h]
theorem back_neg (lo : Int) (h0 : 0 ≤ lo) (h : lo ≤ 9223372036854775808) : wrap64 (IntKind.u64.wrap (-lo)) = -lo := by
  rw [IntKind.wrap_u64]; unfold wrap64; omega
set_option maxHeartbeats 400000 in
theorem signed_neg (lo : Int) (w : World) (h0 : 0 ≤ lo) (h : lo ≤ 9223372036854775808) :
    Calls Tryz.prog 137 #[.agg #[.int .u64 0, .int .u64 lo], .bool true] w fun e w' => e = .returned (.tuple #[.int .i64 (-lo), .bool true]) ∧ Below w.heap.size w w' := by
  go_enter Tryz.func137, Tryz.ntmps137
  go_wp2
  go_ret2
  exact ⟨ret_ok (back_neg lo h0 h), below_alloc _ _⟩
set_option maxHeartbeats 400000 in
theorem signed_pos (lo : Int) (w : World) (h0 : 0 ≤ lo) (h : lo < 9223372036854775808) :
    Calls Tryz.prog 137 #[.agg #[.int .u64 0, .int .u64 lo], .bool false] w fun e w' => e = .returned (.tuple #[.int .i64 lo, .bool true]) ∧ Below w.heap.size w w' := by
  go_enter Tryz.func137, Tryz.ntmps137
  go_wp2
  go_ret2
  exact ⟨rfl, below_alloc _ _⟩
set_option maxHeartbeats 400000 in
theorem signed_neg_no (lo : Int) (w : World) (h : 9223372036854775808 < lo) :
    Calls Tryz.prog 137 #[.agg #[.int .u64 0, .int .u64 lo], .bool true] w fun e w' => e = .returned (.tuple #[.int .i64 0, .bool false]) ∧ Below w.heap.size w w' := by
  go_enter Tryz.func137, Tryz.ntmps137
  go_wp2
  go_ret2
  exact ⟨rfl, below_alloc _ _⟩
set_option maxHeartbeats 400000 in
theorem signed_pos_no (lo : Int) (w : World) (h : 9223372036854775808 ≤ lo) :
    Calls Tryz.prog 137 #[.agg #[.int .u64 0, .int .u64 lo], .bool false] w fun e w' => e = .returned (.tuple #[.int .i64 0, .bool false]) ∧ Below w.heap.size w w' := by
  go_enter Tryz.func137, Tryz.ntmps137
  go_wp2
  go_ret2
  exact ⟨rfl, below_alloc _ _⟩
/-- Is a number one of 62 bits? -/
def fits (n : Int) : Bool := decide (-9223372036854775808 ≤ n ∧ n ≤ 9223372036854775807)
/-- What is told of a number: itself, or 0 if it is none of 62 bits. -/
def told (n : Int) : Int := if fits n then n else 0
theorem fits_yes {n : Int} (h1 : -9223372036854775808 ≤ n) (h2 : n ≤ 9223372036854775807) : fits n = true := by simp [fits, h1, h2]
theorem fits_no {n : Int} (h : n < -9223372036854775808 ∨ 9223372036854775807 < n) : fits n = false := by simp [fits]; omega
theorem told_yes {n : Int} (h1 : -9223372036854775808 ≤ n) (h2 : n ≤ 9223372036854775807) : told n = n := by simp [told, fits_yes h1 h2]
theorem told_no {n : Int} (h : n < -9223372036854775808 ∨ 9223372036854775807 < n) : told n = 0 := by simp [told, fits_no h]
/-- 'signed' at a product's two halves and a sign: what is told of the signed product. -/
theorem signed_any (p : Int) (below : Bool) (w : World) (h0 : 0 ≤ p) (h1 : p ≤ 85070591730234615865843651857942052864) :
    Calls Tryz.prog 137 #[.agg #[.int .u64 (p / 18446744073709551616), .int .u64 (p % 18446744073709551616)], .bool below] w fun e w' =>
      e = .returned (.tuple #[.int .i64 (told (if below then -p else p)), .bool (fits (if below then -p else p))]) ∧ Below w.heap.size w w' := by
  by_cases hp : p < 18446744073709551616
  · rw [show p / 18446744073709551616 = 0 from by omega, show p % 18446744073709551616 = p from by omega]
    cases below with
    | true =>
      by_cases hl : p ≤ 9223372036854775808
      · rw [if_pos rfl, told_yes (by omega) (by omega), fits_yes (by omega) (by omega)]; exact signed_neg p w h0 hl
      · rw [if_pos rfl, told_no (by omega), fits_no (by omega)]; exact signed_neg_no p w (by omega)
    | false =>
      by_cases hl : p < 9223372036854775808
      · rw [if_neg (by decide), told_yes (by omega) (by omega), fits_yes (by omega) (by omega)]; exact signed_pos p w h0 hl
      · rw [if_neg (by decide), told_no (by omega), fits_no (by omega)]; exact signed_pos_no p w (by omega)
  · have hh : 0 < p / 18446744073709551616 := by omega
    cases below with
    | true => rw [if_pos rfl, told_no (by omega), fits_no (by omega)]; exact signed_far _ _ _ w hh
    | false => rw [if_neg (by decide), told_no (by omega), fits_no (by omega)]; exact signed_far _ _ _ w hh
theorem mag_any (a : Int) (w : World) (a1 : -9223372036854775808 ≤ a) (a2 : a ≤ 9223372036854775807) :
    Calls Tryz.prog 139 #[.int .i64 a] w fun e w' => e = .returned (.int .u64 (a.natAbs : Int)) ∧ w = w' := by
  by_cases h : a < 0
  · rw [show (a.natAbs : Int) = -a from by omega]; exact mag_neg a w a1 h
  · rw [show (a.natAbs : Int) = a from by omega]; exact mag_pos a w (by omega) a2
end Go.Proofs.YtpgdddjjjfkneaaGreatDoor

/-
  Contracts of Add, of the program and of the document's answers: the sum and true where it is a number of 62 bits, else 0 and false. No condition.
-/
namespace Go.Proofs.YtpgdddjjjfkneaaGreatDoor
open Go.ChangeShapes Go.WideShapes Go.ChangeAt Go.RowKit
set_option linter.unusedVariables false

set_option maxHeartbeats 400000 in
theorem add_yes (a b : Int) (w : World) (a1 : -9223372036854775808 ≤ a) (a2 : a ≤ 9223372036854775807) (b1 : -9223372036854775808 ≤ b) (b2 : b ≤ 9223372036854775807)
    (h1 : -9223372036854775808 ≤ a + b) (h2 : a + b ≤ 9223372036854775807) :
    Calls Tryz.prog 73 #[.int .i64 a, .int .i64 b] w fun e w' => e = .returned (.tuple #[.int .i64 (a + b), .bool true]) ∧ w = w' := by
  by_cases hb : 0 < b
  · go_enter Tryz.func73, Tryz.ntmps73
    go_wp2
    all_goals first
      | (go_ret2; exact ⟨rfl, rfl⟩)
      | (exfalso; simp_all; omega)
  · go_enter Tryz.func73, Tryz.ntmps73
    go_wp2
    all_goals first
      | (go_ret2; exact ⟨rfl, rfl⟩)
      | (exfalso; simp_all; omega)
set_option maxHeartbeats 400000 in
theorem add_no (a b : Int) (w : World) (a1 : -9223372036854775808 ≤ a) (a2 : a ≤ 9223372036854775807) (b1 : -9223372036854775808 ≤ b) (b2 : b ≤ 9223372036854775807)
    (h1 : a + b < -9223372036854775808 ∨ 9223372036854775807 < a + b) :
    Calls Tryz.prog 73 #[.int .i64 a, .int .i64 b] w fun e w' => e = .returned (.tuple #[.int .i64 0, .bool false]) ∧ w = w' := by
  rcases h1 with h1 | h1
  · have hb : ¬ 0 < b := by omega
    have hx : a < wrap64 (a + b) := by unfold wrap64; omega
    go_enter Tryz.func73, Tryz.ntmps73
    go_wp2
    all_goals (go_ret2; exact ⟨rfl, rfl⟩)
  · have hb : 0 < b := by omega
    have hx : ¬ a < wrap64 (a + b) := by unfold wrap64; omega
    go_enter Tryz.func73, Tryz.ntmps73
    go_wp2
    all_goals (go_ret2; exact ⟨rfl, rfl⟩)
theorem add_any (a b : Int) (w : World) (a1 : -9223372036854775808 ≤ a) (a2 : a ≤ 9223372036854775807) (b1 : -9223372036854775808 ≤ b) (b2 : b ≤ 9223372036854775807) :
    Calls Tryz.prog 73 #[.int .i64 a, .int .i64 b] w fun e w' => e = .returned (.tuple #[.int .i64 (told (a + b)), .bool (fits (a + b))]) ∧ w = w' := by
  by_cases h : -9223372036854775808 ≤ a + b ∧ a + b ≤ 9223372036854775807
  · rw [told_yes h.1 h.2, fits_yes h.1 h.2]; exact add_yes a b w a1 a2 b1 b2 h.1 h.2
  · rw [told_no (by omega), fits_no (by omega)]; exact add_no a b w a1 a2 b1 b2 (by omega)
end Go.Proofs.YtpgdddjjjfkneaaGreatDoor

/-
  Contracts of Mul, of the program and of the document's answers, for all numbers of 62 bits.
-/
namespace Go.Proofs.YtpgdddjjjfkneaaGreatDoor
open Go.ChangeShapes Go.WideShapes Go.ChangeAt Go.RowKit
set_option linter.unusedVariables false

/-- The magnitudes' product with the sign that two numbers make is their product. -/
theorem sign_mul (a b : Int) : (if (!(decide (a < 0) == decide (b < 0))) = true then -((a.natAbs : Int) * (b.natAbs : Int)) else (a.natAbs : Int) * (b.natAbs : Int)) = a * b := by
  by_cases ha : a < 0 <;> by_cases hb : b < 0
  · rw [show (a.natAbs : Int) = -a from by omega, show (b.natAbs : Int) = -b from by omega]
    simp [ha, hb, Int.neg_mul_neg]
  · rw [show (a.natAbs : Int) = -a from by omega, show (b.natAbs : Int) = b from by omega]
    simp [ha, hb, Int.neg_mul]
  · rw [show (a.natAbs : Int) = a from by omega, show (b.natAbs : Int) = -b from by omega]
    simp [ha, hb, Int.mul_neg]
  · rw [show (a.natAbs : Int) = a from by omega, show (b.natAbs : Int) = b from by omega]
    simp [ha, hb]
theorem abs_mul (a b : Int) (a1 : -9223372036854775808 ≤ a) (a2 : a ≤ 9223372036854775807) (b1 : -9223372036854775808 ≤ b) (b2 : b ≤ 9223372036854775807) :
    0 ≤ (a.natAbs : Int) * (b.natAbs : Int) ∧ (a.natAbs : Int) * (b.natAbs : Int) ≤ 85070591730234615865843651857942052864 := by
  have h := Nat.mul_le_mul (show a.natAbs ≤ 9223372036854775808 by omega) (show b.natAbs ≤ 9223372036854775808 by omega)
  rw [← Int.natCast_mul]
  omega
theorem signed_mul (a b : Int) (w : World) (a1 : -9223372036854775808 ≤ a) (a2 : a ≤ 9223372036854775807) (b1 : -9223372036854775808 ≤ b) (b2 : b ≤ 9223372036854775807) :
    Calls Tryz.prog 137 #[.agg #[.int .u64 ((a.natAbs : Int) * (b.natAbs : Int) / 18446744073709551616), .int .u64 ((a.natAbs : Int) * (b.natAbs : Int) % 18446744073709551616)], .bool (!(decide (a < 0) == decide (b < 0)))] w
      fun e w' => e = .returned (.tuple #[.int .i64 (told (a * b)), .bool (fits (a * b))]) ∧ Below w.heap.size w w' := by
  have hm := abs_mul a b a1 a2 b1 b2
  have h := signed_any ((a.natAbs : Int) * (b.natAbs : Int)) (!(decide (a < 0) == decide (b < 0))) w hm.1 hm.2
  rw [sign_mul] at h
  exact h
set_option maxHeartbeats 400000 in
theorem mul_any (a b : Int) (w : World) (a1 : -9223372036854775808 ≤ a) (a2 : a ≤ 9223372036854775807) (b1 : -9223372036854775808 ≤ b) (b2 : b ≤ 9223372036854775807) :
    Calls Tryz.prog 125 #[.int .i64 a, .int .i64 b] w fun e w' => e = .returned (.tuple #[.int .i64 (told (a * b)), .bool (fits (a * b))]) ∧ Below w.heap.size w w' := by
  go_enter Tryz.func125, Tryz.ntmps125
  go_wp2_with fail
  refine (mag_any a _ a1 a2).mono ?_
  rintro e w' ⟨rfl, rfl⟩
  go_wp2_with fail
  refine (mag_any b _ b1 b2).mono ?_
  rintro e w' ⟨rfl, rfl⟩
  go_wp2_with fail
  refine (product_any _ _ _ (by omega) (by omega) (by omega) (by omega)).mono ?_
  rintro e w1 ⟨rfl, G1⟩
  have GH := Lib.hid G1
  clear G1
  go_wp2_with fail
  refine (signed_mul a b _ a1 a2 b1 b2).mono ?_
  rintro e w2 ⟨rfl, G2⟩
  have GK := Lib.hid G2
  clear G2
  go_wp2
  go_ret2
  exact ⟨rfl, GH.out.trans (GK.out.mono GH.out.size)⟩
end Go.Proofs.YtpgdddjjjfkneaaGreatDoor

/-
  Contracts of Ratio, of the program and of the document's answers, for all numbers of 62 bits.
-/
namespace Go.Proofs.YtpgdddjjjfkneaaGreatDoor
open Go.ChangeShapes Go.WideShapes Go.ChangeAt Go.RowKit
set_option linter.unusedVariables false

/-- A quotient that is told. -/
def quoV (a b d : Int) : Int := if 1 ≤ d ∧ fits (a * b) = true then wrap64 ((told (a * b)).tdiv d) else 0
def quoB (a b d : Int) : Bool := decide (1 ≤ d) && fits (a * b)
set_option maxHeartbeats 400000 in
theorem ratio_any (a b d : Int) (w : World) (a1 : -9223372036854775808 ≤ a) (a2 : a ≤ 9223372036854775807) (b1 : -9223372036854775808 ≤ b) (b2 : b ≤ 9223372036854775807) (d1 : -9223372036854775808 ≤ d) (d2 : d ≤ 9223372036854775807) :
    Calls Tryz.prog 102 #[.int .i64 a, .int .i64 b, .int .i64 d] w fun e w' => e = .returned (.tuple #[.int .i64 (quoV a b d), .bool (quoB a b d)]) ∧ Below w.heap.size w w' := by
  by_cases hd : d < 1
  · have e1 : quoV a b d = 0 := by unfold quoV; rw [if_neg (by omega)]
    have e2 : quoB a b d = false := by unfold quoB; simp; omega
    rw [e1, e2]
    clear e1 e2
    go_enter Tryz.func102, Tryz.ntmps102
    go_wp2
    go_ret2
    exact ⟨rfl, Below.refl _ _⟩
  · have hz : ¬ d = 0 := by omega
    by_cases hf : fits (a * b) = true
    · have e1 : quoV a b d = wrap64 ((told (a * b)).tdiv d) := by unfold quoV; rw [if_pos ⟨by omega, hf⟩]
      have e2 : quoB a b d = true := by unfold quoB; simp [hf]; omega
      rw [e1, e2]
      clear e1 e2
      go_enter Tryz.func102, Tryz.ntmps102
      go_wp2_with fail
      refine (mul_any a b _ a1 a2 b1 b2).mono ?_
      rintro e w1 ⟨rfl, G1⟩
      have GH := Lib.hid G1
      clear G1
      go_wp2
      go_ret2
      exact ⟨rfl, GH.out⟩
    · have hf' : fits (a * b) = false := by simpa using hf
      clear hf
      have e1 : quoV a b d = 0 := by unfold quoV; rw [if_neg (by simp [hf'])]
      have e2 : quoB a b d = false := by unfold quoB; simp [hf']
      rw [e1, e2]
      clear e1 e2
      go_enter Tryz.func102, Tryz.ntmps102
      go_wp2_with fail
      refine (mul_any a b _ a1 a2 b1 b2).mono ?_
      rintro e w1 ⟨rfl, G1⟩
      have GH := Lib.hid G1
      clear G1
      go_wp2
      go_ret2
      exact ⟨rfl, GH.out⟩
end Go.Proofs.YtpgdddjjjfkneaaGreatDoor

/-
  Plain mathematics of jobs and turns: values at the beginning, folds, what a vertex's value becomes, whether it sends, what goes along an edge. No condition.
-/
namespace Go.Proofs.YtpgdddjjjfkneaaGreatDoor
open Go.ChangeShapes Go.WideShapes Go.ChangeAt Go.RowKit
set_option linter.unusedVariables false

/-- What is wrong with a job for a graph. -/
def badJ (N p s l q : Int) : Prop := p < 1 ∨ 5 < p ∨ s < 0 ∨ N ≤ s ∨ l < 0 ∨ 40 < l ∨ q < 1 ∨ 6 < q
instance (N p s l q : Int) : Decidable (badJ N p s l q) := inferInstanceAs (Decidable (_ ∨ _))
def jchk (N : Int) (es : List Ed) (p s l q : Int) : Int := if chk N es = 0 then (if badJ N p s l q then 1 else 0) else chk N es
theorem jchk_graph {N : Int} {es : List Ed} {p s l q : Int} (h : ¬ chk N es = 0) : jchk N es p s l q = chk N es := by unfold jchk; rw [if_neg h]
theorem jchk_bad {N : Int} {es : List Ed} {p s l q : Int} (h : chk N es = 0) (hb : badJ N p s l q) : jchk N es p s l q = 1 := by unfold jchk; rw [if_pos h, if_pos hb]
theorem jchk_good {N : Int} {es : List Ed} {p s l q : Int} (h : chk N es = 0) (hb : ¬ badJ N p s l q) : jchk N es p s l q = 0 := by unfold jchk; rw [if_pos h, if_neg hb]
theorem jchk_zero {N : Int} {es : List Ed} {p s l q : Int} (h : jchk N es p s l q = 0) : chk N es = 0 ∧ ¬ badJ N p s l q := by
  unfold jchk at h
  by_cases h1 : chk N es = 0
  · rw [if_pos h1] at h
    by_cases h2 : badJ N p s l q
    · rw [if_pos h2] at h; cases h
    · exact ⟨h1, h2⟩
  · rw [if_neg h1] at h; exact absurd h h1
/-- A number of 62 bits. -/
def bd (a : Int) : Prop := -9223372036854775808 ≤ a ∧ a ≤ 9223372036854775807
/-- A vertex's mark, as the program reckons it. -/
def markI (v : Int) : Int := (wrap64 (wrap64 (wrap64 (31 * v) * v) + 7)).tmod 1009
/-- The value at the beginning. -/
def startI (p s v : Int) : Int := if p = 2 then v else if p = 4 then markI v else if p = 5 then 1000000 else if v = s then 0 else 9223372036854775807
def lessI (a b : Int) : Int := if b < a then b else a
def greatI (a b : Int) : Int := if a < b then b else a
/-- What two numbers are folded into. -/
def foldX (p a b : Int) : Int := if p = 5 then told (a + b) else if p = 4 then greatI a b else lessI a b
def foldB (p a b : Int) : Bool := if p = 5 then fits (a + b) else true
def cameI (got : Int) (sm : Bool) : Int := if sm then got else 0
/-- The value behind a turn. -/
def valX (p st val got : Int) (sm : Bool) : Int :=
  if p = 5 then (if st = 0 then val else if quoB (cameI got sm) 85 100 = true then told (150000 + quoV (cameI got sm) 85 100) else 0)
  else if sm then foldX p val got else val
def valB (p st val got : Int) (sm : Bool) : Bool :=
  if p = 5 then (if st = 0 then true else if quoB (cameI got sm) 85 100 = true then fits (150000 + quoV (cameI got sm) 85 100) else false)
  else true
/-- Does it send? -/
def sendB (p s st v val now : Int) : Bool :=
  if p = 5 then decide (st < 10) else if p = 2 ∨ p = 4 then (now != val || st == 0) else (now != val || (st == 0 && v == s))
/-- What goes along an edge. -/
def alX (p now : Int) (e : Ed) (m : Int) : Int := if p = 1 then told (now + e.2.2) else if p = 3 then told (now + 1) else if p = 5 then quoV now 1 m else now
def alB (p now : Int) (e : Ed) (m : Int) : Bool := if p = 1 then fits (now + e.2.2) else if p = 3 then fits (now + 1) else if p = 5 then quoB now 1 m else true
/-- Does it rest? -/
def restB (p st : Int) : Bool := if p = 5 then decide (10 ≤ st) else true
theorem told_bd (n : Int) : bd (told n) := by
  unfold told
  by_cases h : fits n = true
  · rw [if_pos h]
    unfold fits at h
    unfold bd
    simpa using h
  · rw [if_neg h]; exact ⟨by decide, by decide⟩
theorem wrap64_bd (n : Int) : bd (wrap64 n) := by unfold wrap64 bd; omega
theorem quoV_bd (a b d : Int) : bd (quoV a b d) := by
  unfold quoV
  split
  · exact wrap64_bd _
  · exact ⟨by decide, by decide⟩
theorem lessI_bd {a b : Int} (ha : bd a) (hb : bd b) : bd (lessI a b) := by unfold lessI; split <;> assumption
theorem greatI_bd {a b : Int} (ha : bd a) (hb : bd b) : bd (greatI a b) := by unfold greatI; split <;> assumption
theorem foldX_bd {p a b : Int} (ha : bd a) (hb : bd b) : bd (foldX p a b) := by
  unfold foldX
  split
  · exact told_bd _
  · split
    · exact greatI_bd ha hb
    · exact lessI_bd ha hb
theorem valX_bd {p st val got : Int} {sm : Bool} (ha : bd val) (hb : bd got) : bd (valX p st val got sm) := by
  unfold valX
  split
  · split
    · exact ha
    · split
      · exact told_bd _
      · exact ⟨by decide, by decide⟩
  · split
    · exact foldX_bd ha hb
    · exact ha
theorem cameI_bd {got : Int} {sm : Bool} (hb : bd got) : bd (cameI got sm) := by
  unfold cameI; split
  · exact hb
  · exact ⟨by decide, by decide⟩
/-- Messages: To, V. -/
abbrev Ms := Int × Int
def mAt (ms : List Ms) (k : Nat) : Ms := ms.getD k (0, 0)
/-- Messages as cells. -/
def mc (ms : List Ms) : List Value := ms.flatMap fun e => [.int .i64 e.1, .int .i64 e.2]
/-- What goes along the edges. -/
def msgL (p now m : Int) (es : List Ed) : List Ms := es.map fun e => (e.2.1, alX p now e m)
def msgB (p now m : Int) (es : List Ed) : Bool := es.all fun e => alB p now e m
end Go.Proofs.YtpgdddjjjfkneaaGreatDoor


