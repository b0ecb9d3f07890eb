import Derived.Laws.BitsAllLaws
import Derived.BigQuiet
import Derived.OneCell
import Derived.Deep.DeepCutAuto
import Derived.Deep.DeepMust
import Derived.Laws.EntriesVeiled
import Derived.Deep.OwnRows
import Derived.Deep.RegionLaw
import Derived.WalkKit
import Derived.Below
import Derived.Lib.Hide
import Derived.Maps.AppendAt
import Derived.Lib.AppendStr
import Derived.Laws.IdiomStrings
import Derived.Laws.Slices
import Derived.Deep.Draws
import Derived.Deep.QuietTactic
import Derived.StillTailTactics
import Derived.Lib.Small
import Derived.Lib.Strings
import Derived.Test.YtdpmlpclhojcjaaChecked
import Derived.ProofKit
import Derived.OpenShut
import Derived.IntWalk
import Derived.Laws.Bits64b
/-
  Words for memory, over any program: a slice that reads as a list of cells ('Lies'), bytes as cells ('bc'), a slice of the call's own that is appended to, cut and converted. No condition.
-/
namespace Go.Proofs.Ytdpmlpclhojcjaa
open Go.RowKit
set_option linter.unusedVariables false

theorem ret_int {k : IntKind} {a b : Int} (h : a = b) : Ending.returned (.int k a) = .returned (.int k b) := by rw [h]

/-- Bytes as cells. -/
def bc (l : List UInt8) : List Value := l.map fun b => Value.int .u8 (b.toNat : Int)

theorem bc_length (l : List UInt8) : (bc l).length = l.length := by unfold bc; simp
theorem bc_append (l m : List UInt8) : bc (l ++ m) = bc l ++ bc m := by unfold bc; simp
theorem bc_take (l : List UInt8) (k : Nat) : (bc l).take k = bc (l.take k) := by unfold bc; simp
theorem bc_drop (l : List UInt8) (k : Nat) : (bc l).drop k = bc (l.drop k) := by unfold bc; simp
theorem bc_one (l : List UInt8) : ∀ u ∈ bc l, u.oneCell' = true := by
  intro u hu
  unfold bc at hu
  obtain ⟨b, _, rfl⟩ := List.mem_map.1 hu
  rfl
theorem bc_string (s : ByteArray) : Lib.strCells s = bc s.data.toList := rfl

/-- The slice at A, of n elements of s cells each, reads as the cells xs; they lie below block B. -/
def Lies (w : World) (B s : Nat) (A : Option Addr) (n : Nat) (xs : List Value) : Prop :=
  xs.length = n * s ∧ ∀ j u, xs[j]? = some u → ∃ ad, A = some ad ∧ ad.block < B ∧ w.cell? (ad.add j) = some u

theorem block_add (a : Addr) (n : Nat) : (a.add n).block = a.block := by unfold Addr.add; split <;> rfl
theorem add_add (a : Addr) (i j : Nat) : (a.add i).add j = a.add (i + j) := by
  unfold Addr.add
  by_cases hi : i = 0 <;> by_cases hj : j = 0 <;> simp [hi, hj, Nat.add_assoc]
theorem add_zero (a : Addr) : a.add 0 = a := by unfold Addr.add; simp

section
variable {w w' : World} {B B' s n : Nat} {A : Option Addr} {xs : List Value}

theorem Lies.keep (h : Lies w B s A n xs) (hk : ∀ p : Addr, p.block < B → w'.cell? p = w.cell? p) : Lies w' B s A n xs :=
  ⟨h.1, fun j u hu => by
    obtain ⟨ad, e, hb, hc⟩ := h.2 j u hu
    exact ⟨ad, e, hb, (hk _ (by rw [block_add]; exact hb)).trans hc⟩⟩
theorem Lies.more (h : Lies w B s A n xs) (hB : B ≤ B') : Lies w B' s A n xs :=
  ⟨h.1, fun j u hu => by
    obtain ⟨ad, e, hb, hc⟩ := h.2 j u hu
    exact ⟨ad, e, by omega, hc⟩⟩
theorem Lies.below (h : Lies w B s A n xs) (hb : Below B w w') : Lies w' B s A n xs := h.keep fun _ hp => hb.cell hp
theorem Lies.drewN (h : Lies w B s A n xs) (k : Nat) : Lies (w.drewN k) B s A n xs := h
/-- Of the world as it stands behind something that made memory alone. -/
theorem Lies.next (h : Lies w w.heap.size s A n xs) (hb : Below w.heap.size w w') : Lies w' w'.heap.size s A n xs := (h.below hb).more hb.size

theorem Lies.of_own {base : Nat} {e : TypeId} {c : Nat} (h : w.ownsRow base e s (.slice A n c) n xs) : Lies w w.heap.size s A n xs := by
  refine ⟨h.1, fun j u hu => ?_⟩
  rcases h.2 with ⟨hv, rfl⟩ | ⟨g, cap, cur, hv, hb, hg, rest⟩
  · have : xs = [] := List.eq_nil_of_length_eq_zero (by simpa using h.1)
    subst this
    simp at hu
  · injection hv with hA _ _
    subst hA
    exact ⟨_, rfl, (Array.getElem?_eq_some_iff.1 hg).1, h.cells (g := g) rfl j u hu⟩

theorem Lies.nil : Lies w B s none 0 [] := ⟨by simp, fun j u h => by simp at h⟩

/-- A cut: from k to m. -/
theorem Lies.cut (h : Lies w B 1 A n xs) {k m cap : Nat} (hk : k ≤ m) (hm : m ≤ n) (hc : n ≤ cap) :
    Lies w B 1 (if cap = k then A else A.map (·.add (k * 1))) (m - k) ((xs.drop k).take (m - k)) := by
  have hl : xs.length = n := by simpa using h.1
  refine ⟨by simp [List.length_take, List.length_drop]; omega, fun j u hu => ?_⟩
  have hj : j < m - k := by
    have := (List.getElem?_eq_some_iff.1 hu).1
    simp [List.length_take] at this
    omega
  rw [List.getElem?_take_of_lt hj, List.getElem?_drop] at hu
  obtain ⟨ad, rfl, hb, hcell⟩ := h.2 _ u hu
  rw [if_neg (by omega)]
  exact ⟨ad.add (k * 1), rfl, by rw [block_add]; exact hb, by rw [add_add, Nat.mul_one]; exact hcell⟩
end

theorem Lies.byte {w : World} {B : Nat} {A : Option Addr} {n : Nat} {l : List UInt8} (h : Lies w B 1 A n (bc l)) (k : Nat) (hk : k < n) :
    ∃ ad, ∃ hl : k < l.length, A = some ad ∧ ad.block < B ∧ w.cell? (ad.add k) = some (.int .u8 (l[k].toNat : Int)) := by
  have hl : k < l.length := by have := h.1; unfold bc at this; simp at this; omega
  obtain ⟨ad, e, hb, hc⟩ := h.2 k (.int .u8 (l[k].toNat : Int)) (by unfold bc; simp [List.getElem?_eq_getElem hl])
  exact ⟨ad, hl, e, hb, hc⟩

theorem Lies.len {w : World} {B : Nat} {A : Option Addr} {n : Nat} {l : List UInt8} (h : Lies w B 1 A n (bc l)) : l.length = n := by
  have := h.1; unfold bc at this; simpa using this

/-- A cut slice: its run, and what it reads as. -/
theorem cut_lh {P : Program} {t : TypeId} (ht : P.underlying t = some (.slice (P.elem t))) (hz : ∀ W, (sizeOf (P.elem t)).run P W = .ok 1 W) (A : Option Addr) (n c k m : Nat) (i j : Int) (ki kj : IntKind) (hi : i = (k : Int)) (hj : j = (m : Int)) (hk : k ≤ m) (hm : m ≤ n) (hc : n ≤ c) :
    ∃ A', (∀ W, (Instr.slice t (.slice A n c) (some (.int ki i)) (some (.int kj j)) none).run P W = .ok (.slice A' (m - k) (c - k)) W) ∧
      ∀ (w : World) (B : Nat) (xs : List Value), Lies w B 1 A n xs → Lies w B 1 A' (m - k) ((xs.drop k).take (m - k)) := by
  subst hi hj
  refine ⟨_, fun W => ?_, fun w B xs h => h.cut (cap := c) hk hm hc⟩
  rw [run_slice_lh W t A n c ht ki kj k m (by omega) (by omega) (by omega)]
  simp [hz, sliced, Result.andThen]

theorem cut_l {P : Program} {t : TypeId} (ht : P.underlying t = some (.slice (P.elem t))) (hz : ∀ W, (sizeOf (P.elem t)).run P W = .ok 1 W) (A : Option Addr) (n c k : Nat) (i : Int) (ki : IntKind) (hi : i = (k : Int)) (hk : k ≤ n) (hc : n ≤ c) :
    ∃ A', (∀ W, (Instr.slice t (.slice A n c) (some (.int ki i)) none none).run P W = .ok (.slice A' (n - k) (c - k)) W) ∧
      ∀ (w : World) (B : Nat) (xs : List Value), Lies w B 1 A n xs → Lies w B 1 A' (n - k) (xs.drop k) := by
  subst hi
  refine ⟨if c = k then A else A.map (·.add (k * 1)), fun W => ?_, fun w B xs h => ?_⟩
  rotate_left
  · have h2 := h.cut (cap := c) hk (Nat.le_refl n) hc
    have : (xs.drop k).take (n - k) = xs.drop k := List.take_of_length_le (by have := h.1; simp [List.length_drop]; omega)
    rw [this] at h2
    exact h2
  · rw [run_slice_l W t A n c ht ki k (by omega) (by omega)]
    simp [hz, sliced, Result.andThen]

theorem cut_h {P : Program} {t : TypeId} (ht : P.underlying t = some (.slice (P.elem t))) (hz : ∀ W, (sizeOf (P.elem t)).run P W = .ok 1 W) (A : Option Addr) (n c m : Nat) (j : Int) (kj : IntKind) (hj : j = (m : Int)) (hm : m ≤ n) (hc : n ≤ c) :
    ∃ A', (∀ W, (Instr.slice t (.slice A n c) none (some (.int kj j)) none).run P W = .ok (.slice A' m c) W) ∧
      ∀ (w : World) (B : Nat) (xs : List Value), Lies w B 1 A n xs → Lies w B 1 A' m (xs.take m) := by
  subst hj
  refine ⟨if c = 0 then A else A.map (·.add (0 * 1)), fun W => ?_, fun w B xs h => ?_⟩
  rotate_left
  · have h2 := h.cut (cap := c) (Nat.zero_le m) hm hc
    simp only [List.drop_zero, Nat.sub_zero] at h2
    exact h2
  · rw [run_slice_h W t A n c ht kj m (by omega) (by omega)]
    simp [hz, sliced, Result.andThen]

/-- string(b). -/
theorem run_str {P : Program} (w : World) (B : Nat) (src dst e : TypeId) (A : Option Addr) (n c : Nat) (l : List UInt8) (hs : P.underlying src = some (.slice e)) (he : P.underlying e = some (.int .u8)) (hd : P.underlying dst = some .string)
    (h : Lies w B 1 A n (bc l)) : (convert src dst (.slice A n c)).run P w = .ok (.string ⟨l.toArray⟩) w := by
  have hn := h.len
  subst hn
  cases A with
  | none =>
    have : l = [] := by
      cases l with
      | nil => rfl
      | cons b l => obtain ⟨ad, _, e, _⟩ := h.byte 0 (by simp); cases e
    subst this
    rw [run_convert_bytes_string w src dst e none _ c hs he hd]
    rfl
  | some ad =>
    exact run_convert_bytes_back w src dst e ad c l hs he hd (fun j hj => by
      obtain ⟨ad', hl, e, _, hc⟩ := h.byte j hj
      injection e with e
      subst e
      exact hc)

section
variable {P : Program} (w : World)

/-- append onto a slice of the call's own: what is appended lies below B, nil or not. -/
theorem run_app (base : Nat) (t ty e : TypeId) (i : TypeInfo) (z : Value) (size bytes : Nat) (ht : P.underlying t = some (.slice e)) (hi : P.info? e = some i) (hz : i.zero = some z)
    (hsize : i.size = size) (hby : i.bytes = bytes) (hzs : z.cells.size = size) (hsz : 0 < size)
    (A : Option Addr) (n c : Nat) (xs : List Value) (hown : w.ownsRow base e size (.slice A n c) n xs)
    (B : Nat) (A2 : Option Addr) (m c2 : Nat) (news : List Value) (hl : Lies w B size A2 m news) (h1 : ∀ u ∈ news, u.oneCell' = true)
    (h63 : n + m ≤ maxLen) (hbytes : (n + m) * bytes ≤ 140737488355328) (hbase : base ≤ w.heap.size) :
    ∃ A' c' w', (Builtin.append_ #[t, t] ty #[.slice A n c, .slice A2 m c2]).run P w = .ok (.slice A' (n + m) c') w' ∧ w'.ownsRow base e size (.slice A' (n + m) c') (n + m) (xs ++ news) ∧ Below base w w' ∧ w.grownBy w' (Value.slice A n c).ownBlock ∧
      ((Value.slice A' (n + m) c').ownBlock = (Value.slice A n c).ownBlock ∨ (Value.slice A' (n + m) c').ownBlock = some w.heap.size) := by
  have fin : ∀ v' w', w'.ownsRow base e size v' (n + m) (xs ++ news) → w.grownBy w' (Value.slice A n c).ownBlock → Below base w w' ∧ ∃ A' c', v' = .slice A' (n + m) c' := by
    intro v' w' ho hg
    refine ⟨(Below.refl base w).grown hg hbase (fun k hk => (hown.lt k hk).1), ?_⟩
    rcases ho.2 with ⟨rfl, h0⟩ | ⟨g, cap, cur, rfl, _⟩
    · rw [h0]; exact ⟨none, 0, rfl⟩
    · exact ⟨_, cap, rfl⟩
  cases A2 with
  | none =>
    have hnil : news = [] := by
      cases news with
      | nil => rfl
      | cons u r => obtain ⟨ad, e, _⟩ := hl.2 0 u rfl; cases e
    subst hnil
    have hm : m = 0 := by
      have := hl.1
      simp only [List.length_nil] at this
      rcases Nat.mul_eq_zero.1 this.symm with h | h
      · exact h
      · omega
    subst hm
    have hr : (Builtin.append_ #[t, t] ty #[.slice A n c, .slice none 0 c2]).run P w = .ok (.slice A n c) w := by
      rcases hown.2 with ⟨hv, rfl⟩ | ⟨g, cap, cur, hv, _, _, hnc, _⟩
      · injection hv with e1 e2 e3
        subst e1 e3
        simp [Builtin.append_, run_underlying ht, sizeOf, typeInfo, hi, Builtin.lenOf, Builtin.firstCells]
      · injection hv with e1 e2 e3
        subst e1 e3
        simp [Builtin.append_, run_underlying ht, sizeOf, typeInfo, hi, Builtin.lenOf, Builtin.firstCells, hnc, storeCells]
    exact ⟨A, c, w, by simpa using hr, by simpa using hown, Below.refl _ _, World.grownBy.refl w _, .inl rfl⟩
  | some ad =>
    have hcells : ∀ j u, news[j]? = some u → w.cell? (ad.add j) = some u := by
      intro j u hu
      obtain ⟨ad', e, _, hc⟩ := hl.2 j u hu
      injection e with e
      subst e
      exact hc
    obtain ⟨v', w', hrun, h2, h3, _, h5⟩ := run_append_own_at (P := P) w base t ty e i z size bytes ht hi hz hsize hby hzs hsz (.slice A n c) n xs hown ad m c2 news hl.1 hcells h1 h63 hbytes hbase
    obtain ⟨hb, A', c', rfl⟩ := fin v' w' h2 h3
    exact ⟨A', c', w', hrun, h2, hb, h3, h5⟩

theorem wpList_app {ops : Array Oper} {rest : List Oper} {o : Oper} {a : Act} {Q : Exit → Act → World → Prop} (hgd : o.guard = none) (s x : Operand) (t : TypeId)
    (ho : o.op = .call { callee := .builtin .append, args := #[s, x], argTypes := #[t, t] })
    (base : Nat) (e : TypeId) (i : TypeInfo) (z : Value) (size bytes : Nat) (ht : P.underlying t = some (.slice e)) (hi : P.info? e = some i) (hz : i.zero = some z)
    (hsize : i.size = size) (hby : i.bytes = bytes) (hzs : z.cells.size = size) (hsz : 0 < size)
    (A : Option Addr) (n c : Nat) (xs : List Value) (hs : a.eval s = .slice A n c) (hown : w.ownsRow base e size (.slice A n c) n xs)
    (B : Nat) (A2 : Option Addr) (m c2 : Nat) (news : List Value) (hx : a.eval x = .slice A2 m c2) (hl : Lies w B size A2 m news) (h1 : ∀ u ∈ news, u.oneCell' = true)
    (k : Nat) (ys : List Value) (hk : n + m = k) (hy : xs ++ news = ys) (h63 : k ≤ maxLen) (hbytes : k * bytes ≤ 140737488355328) (hbase : base ≤ w.heap.size)
    (h : ∀ A' c' w', w'.ownsRow base e size (.slice A' k c') k ys → Below base w w' → wpList P ops Q rest (a.put o.dst (.slice A' k c')) w') :
    wpList P ops Q (o :: rest) a w := by
  subst hk hy
  refine wpList_plain hgd fun K hK => ?_
  obtain ⟨A', c', w', hr, h2, h3, _, _⟩ := run_app (P := P) w base t o.type e i z size bytes ht hi hz hsize hby hzs hsz A n c xs hown B A2 m c2 news hl h1 h63 hbytes hbase
  unfold Oper.wp execOp
  simp only [ho, resolve, invoke, builtin, Sem.run_bind, Sem.run_pure, Result.andThen_ok, List.map_toArray, List.map_cons, List.map_nil, hs, hx, hr]
  exact hK _ _ (h A' c' w' h2 h3)

/-- append of a text's bytes. -/
theorem wpList_app_string {ops : Array Oper} {rest : List Oper} {o : Oper} {a : Act} {Q : Exit → Act → World → Prop} (hgd : o.guard = none) (s x : Operand) (t u : TypeId)
    (ho : o.op = .call { callee := .builtin .append, args := #[s, x], argTypes := #[t, u] })
    (base : Nat) (e : TypeId) (i : TypeInfo) (ht : P.underlying t = some (.slice e)) (hu : P.underlying u = some .string) (hi : P.info? e = some i) (hz : i.zero = some (.int .u8 0))
    (hsize : i.size = 1) (hby : i.bytes = 1)
    (A : Option Addr) (n c : Nat) (xs : List Value) (hs : a.eval s = .slice A n c) (hown : w.ownsRow base e 1 (.slice A n c) n xs)
    (b : ByteArray) (hx : a.eval x = .string b) (k : Nat) (ys : List Value) (hk : n + b.size = k) (hy : xs ++ bc b.data.toList = ys) (h63 : k ≤ maxLen) (hbytes : k ≤ 140737488355328) (hbase : base ≤ w.heap.size)
    (h : ∀ A' c' w', w'.ownsRow base e 1 (.slice A' k c') k ys → Below base w w' → wpList P ops Q rest (a.put o.dst (.slice A' k c')) w') :
    wpList P ops Q (o :: rest) a w := by
  subst hk hy
  refine wpList_plain hgd fun K hK => ?_
  obtain ⟨v', w', hr, h2, h3, _⟩ := Lib.run_append_own_string (P := P) w base t u o.type e i ht hu hi hz hsize hby (.slice A n c) n xs hown b h63 hbytes hbase
  have hb : Below base w w' := (Below.refl base w).grown h3 hbase (fun k hk => (hown.lt k hk).1)
  obtain ⟨A', c', rfl⟩ : ∃ A' c', v' = .slice A' (n + b.size) c' := by
    rcases h2.2 with ⟨rfl, h0⟩ | ⟨g, cap, cur, rfl, _⟩
    · rw [h0]; exact ⟨none, 0, rfl⟩
    · exact ⟨_, cap, rfl⟩
  unfold Oper.wp execOp
  simp only [ho, resolve, invoke, builtin, Sem.run_bind, Sem.run_pure, Result.andThen_ok, List.map_toArray, List.map_cons, List.map_nil, hs, hx, hr]
  exact hK _ _ (h A' c' w' h2 hb)
end

theorem lies_new (w : World) (u : Value) (t : TypeId) (B : Nat) (hB : w.heap.size < B) : Lies (w.alloc (.cells #[u] t)) B 1 (some ⟨w.heap.size, 0, none⟩) 1 [u] :=
  ⟨rfl, fun j v hj => ⟨_, rfl, hB, cell_one_new w u t j v hj⟩⟩

theorem below_of_drew {B : Nat} {w w' : World} (h : Below B w.drew w') : Below B w w' := ⟨h.os, h.tape, h.output, h.size, h.block⟩

theorem below_to_drewN {B : Nat} {w w' : World} (h : Below B w w') (q : Nat) : Below B w (w'.drewN q) := ⟨h.os, h.tape, h.output, h.size, h.block⟩

theorem own_next {w w' : World} {base s n : Nat} {e : TypeId} {v : Value} {xs : List Value} (h : w.ownsRow base e s v n xs) (hb : Below w.heap.size w w') : w'.ownsRow base e s v n xs :=
  h.kept (row := none) ⟨hb.os, hb.tape, hb.output, hb.size, fun k hk _ => hb.block k hk⟩ (by cases v.ownBlock <;> simp)

theorem _root_.Go.World.ownsRow.lower {w : World} {base base' s n : Nat} {e : TypeId} {v : Value} {xs : List Value} (h : w.ownsRow base e s v n xs) (hb : base' ≤ base) : w.ownsRow base' e s v n xs := by
  refine ⟨h.1, ?_⟩
  rcases h.2 with h2 | ⟨g, cap, cur, hv, hg, r⟩
  · exact .inl h2
  · exact .inr ⟨g, cap, cur, hv, Nat.le_trans hb hg, r⟩

theorem own_empty (w : World) (e : TypeId) (base : Nat) (hb : base ≤ w.heap.size) : (w.alloc (.cells #[] e)).ownsRow base e 1 (.slice (some ⟨w.heap.size, 0, none⟩) 0 0) 0 [] :=
  ⟨rfl, .inr ⟨w.heap.size, 0, #[], rfl, hb, heap_alloc_new w _, Nat.le_refl _, Nat.zero_le _, rfl, rfl⟩⟩

theorem below_alloc (w : World) (o : Obj) : Below w.heap.size w (w.alloc o) := (Below.refl _ _).alloc (Nat.le_refl _) o

theorem quiet_left {P : Program} {f : FuncId} {args : Array Value} {w : World} {n : Nat} {v : Value}
    (h : Calls P f args (w.drewN n) fun e w' => e = .returned v ∧ w.drewN n = w') : Calls P f args (w.drewN n) fun e w'' => e = .returned v ∧ ∃ m, w'' = w.drewN m :=
  h.mono fun _ _ ⟨he, hm⟩ => ⟨he, n, hm.symm⟩

theorem own_cap {w : World} {base s n c : Nat} {e : TypeId} {A : Option Addr} {xs : List Value} (h : w.ownsRow base e s (.slice A n c) n xs) : n ≤ c := by
  rcases h.2 with ⟨hv, h0⟩ | ⟨g, cap, cur, hv, _, _, h3, _⟩
  · omega
  · injection hv with _ _ e3; omega

theorem lies_row (w : World) (vs : Array Value) (t : TypeId) (fr : Nat × Nat) (n : Nat) (hn : vs.toList.length = n) (B : Nat) (hB : w.heap.size < B) : Lies (w.alloc (.cells vs t fr)) B 1 (some ⟨w.heap.size, 0, none⟩) n vs.toList :=
  ⟨by rw [hn, Nat.mul_one], fun j v hj => ⟨_, rfl, hB, by
    have : (⟨w.heap.size, 0, none⟩ : Addr).add j = ⟨w.heap.size, j, none⟩ := by unfold Addr.add; split <;> simp_all
    rw [this, cell_of_row (w.alloc (.cells vs t fr)) w.heap.size j vs t fr (heap_alloc_new w _)]
    simpa using hj⟩⟩

/-- What is told of a slice of integers that came in. -/
def IsRow (k : IntKind) (w : World) (a : Option Addr) (len cap : Nat) (zs : List Int) : Prop :=
  (a = none ∧ len = 0 ∧ cap = 0 ∧ zs = []) ∨
  ∃ x, a = some x ∧ len ≤ cap ∧ cap ≤ maxLen ∧ zs.length = cap ∧ (∀ i, i < zs.length → w.cell? (x.add i) = some (.int k (zs.getD i 0))) ∧ ∀ n ∈ zs, (Lit.int k n).wf = true

attribute [local irreducible] wpStill in
theorem still_tail {P : Program} {id : Nat} {Q : Exit → Act → World → Prop} {a : Act} {w : World} {l : List Oper} (n : Nat) (hm : P.follows .mixedOrders = true) (hB : Region.lexTailB .any l.toArray n = true)
    (h : wpStill P l.toArray w.drew (fun a' => wpList P l.toArray Q (l.drop n) a' w.drew) (l.take n) a) : (Code.region id l.toArray true).wp P Q a w := wp_region_still_tail n hm hB h

/-- Two slices of the call's own whose elements are of different types never share a row. -/
theorem own_apart {w w' : World} {b b' s s' n n' : Nat} {e e' : TypeId} {v v' : Value} {xs xs' : List Value} (h : w.ownsRow b e s v n xs) (h' : w.ownsRow b' e' s' v' n' xs') (hg : w.grownBy w' v'.ownBlock) (hne : e ≠ e') :
    w'.ownsRow b e s v n xs := by
  refine h.kept hg ?_
  rcases h.2 with ⟨rfl, _⟩ | ⟨g, cap, cur, rfl, _, hh, _⟩
  · exact .inl rfl
  · right
    rcases h'.2 with ⟨rfl, _⟩ | ⟨g', cap', cur', rfl, _, hh', _⟩
    · simp [Value.ownBlock]
    · intro e1
      have : g = g' := by simpa [Value.ownBlock] using e1
      subst this
      rw [hh] at hh'
      injection hh' with hh'
      injection hh' with _ ht
      exact hne ht

theorem wpList_app2 {P : Program} (w : World) {ops : Array Oper} {rest : List Oper} {o : Oper} {a : Act} {Q : Exit → Act → World → Prop} (hgd : o.guard = none) (s x : Operand) (t : TypeId)
    (ho : o.op = .call { callee := .builtin .append, args := #[s, x], argTypes := #[t, t] })
    (base : Nat) (e : TypeId) (i : TypeInfo) (z : Value) (size bytes : Nat) (ht : P.underlying t = some (.slice e)) (hi : P.info? e = some i) (hz : i.zero = some z)
    (hsize : i.size = size) (hby : i.bytes = bytes) (hzs : z.cells.size = size) (hsz : 0 < size)
    (A : Option Addr) (n c : Nat) (xs : List Value) (hs : a.eval s = .slice A n c) (hown : w.ownsRow base e size (.slice A n c) n xs)
    (B : Nat) (A2 : Option Addr) (m c2 : Nat) (news : List Value) (hx : a.eval x = .slice A2 m c2) (hl : Lies w B size A2 m news) (h1 : ∀ u ∈ news, u.oneCell' = true)
    (k : Nat) (ys : List Value) (hk : n + m = k) (hy : xs ++ news = ys) (h63 : k ≤ maxLen) (hbytes : k * bytes ≤ 140737488355328) (hbase : base ≤ w.heap.size)
    (h : ∀ A' c' w', w'.ownsRow base e size (.slice A' k c') k ys → Below base w w' → w.grownBy w' (Value.slice A n c).ownBlock → wpList P ops Q rest (a.put o.dst (.slice A' k c')) w') :
    wpList P ops Q (o :: rest) a w := by
  subst hk hy
  refine wpList_plain hgd fun K hK => ?_
  obtain ⟨A', c', w', hr, h2, h3, h4, _⟩ := run_app (P := P) w base t o.type e i z size bytes ht hi hz hsize hby hzs hsz A n c xs hown B A2 m c2 news hl h1 h63 hbytes hbase
  unfold Oper.wp execOp
  simp only [ho, resolve, invoke, builtin, Sem.run_bind, Sem.run_pure, Result.andThen_ok, List.map_toArray, List.map_cons, List.map_nil, hs, hx, hr]
  exact hK _ _ (h A' c' w' h2 h3 h4)

end Go.Proofs.Ytdpmlpclhojcjaa

namespace Go.Proofs.Ytdpmlpclhojcjaa
open Go.ChangeShapes Go.WideShapes Go.ChangeAt Go.RowKit
set_option linter.unusedVariables false

theorem ret_bool {a b : Bool} (h : a = b) : Ending.returned (.bool a) = .returned (.bool b) := by rw [h]
def vc (l : List Int) : List Value := l.map fun x => Value.int .i64 x
theorem vc_len (l : List Int) : (vc l).length = l.length := by unfold vc; simp
theorem vc_app (a b : List Int) : vc (a ++ b) = vc a ++ vc b := by unfold vc; simp
theorem vc_one (l : List Int) : ∀ u ∈ vc l, u.oneCell' = true := by
  intro u hu; unfold vc at hu; obtain ⟨b, _, rfl⟩ := List.mem_map.1 hu; rfl
/-- The number at a place. -/
def iAt (l : List Int) (k : Nat) : Int := l.getD k 0
theorem iAt_get (l : List Int) (k : Nat) (h : k < l.length) : iAt l k = l[k] := by unfold iAt; rw [List.getD_eq_getElem?_getD, List.getElem?_eq_getElem h]; rfl
theorem iAt_mem (l : List Int) (k : Nat) (h : k < l.length) : iAt l k ∈ l := by rw [iAt_get l k h]; exact List.getElem_mem h
theorem idrop_at (l : List Int) (k : Nat) (h : k < l.length) : l.drop k = iAt l k :: l.drop (k + 1) := by rw [iAt_get l k h]; exact List.drop_eq_getElem_cons h
theorem itake_at (l : List Int) (k : Nat) (h : k < l.length) : l.take (k + 1) = l.take k ++ [iAt l k] := by rw [iAt_get l k h]; exact List.take_succ_eq_append_getElem h
theorem vc_at (l : List Int) (k : Nat) (h : k < l.length) : (vc l)[k]? = some (.int .i64 (iAt l k)) := by unfold vc; rw [iAt_get l k h]; simp [List.getElem?_eq_getElem h]
theorem Lies.vs {w : World} {B : Nat} {A : Option Addr} {n : Nat} {l : List Int} (h : Lies w B 1 A n (vc l)) (k : Nat) (hk : k < l.length) : ∃ ad, A = some ad ∧ ad.block < B ∧ w.cell? (ad.add k) = some (.int .i64 (iAt l k)) :=
  h.2 k _ (vc_at l k hk)
theorem lies_cells (w : World) (vs : List Value) (t : TypeId) (n s : Nat) (hn : vs.length = n * s) : Lies (w.alloc (.cells vs.toArray t)) (w.heap.size + 1) s (some ⟨w.heap.size, 0, none⟩) n vs := by
  refine ⟨hn, fun j u hj => ⟨_, rfl, Nat.lt_succ_self _, ?_⟩⟩
  have : (⟨w.heap.size, 0, none⟩ : Addr).add j = ⟨w.heap.size, j, none⟩ := by unfold Addr.add; split <;> simp_all
  rw [this, cell_of_row _ _ j _ t (0, 0) (heap_alloc_new _ _)]
  simpa using hj
theorem cell_set {W : World} {p a : Addr} {u v : Value} (h : a.block ≠ p.block) (hc : W.cell? a = some v) : (W.setCell p u).cell? a = some v := (World.cell?_of_block (w := W) (Below.heap_setCell _ _ _ _ h)).trans hc
theorem frozen_setAny {W : World} {p a : Addr} {u : Value} (hc : W.frozen? a = false) : (W.setCell p u).frozen? a = false := by simpa [go_sem] using hc
theorem step_app {P : Program} {ops : Array Oper} {o : Oper} {a : Act} {w : World} {K : Act → World → Prop} {Q : Exit → Act → World → Prop} {E : Prop}
    (hg : o.guard = none) (d x : Operand) (dT sT : TypeId) (hop : o.op = Op.call { callee := Callee.builtin Builtin.append, args := #[d, x], argTypes := #[dT, sT] })
    (v u : Value) (hd : a.eval d = v) (hx : a.eval x = u) {v' : Value} {w' : World} (hr : (Builtin.append_ #[dT, sT] o.type #[v, u]).run P w = .ok v' w') (hK : K (a.put o.dst v') w') :
    if Region.wanted o (yielded ops a.tmps) = true then Oper.wp P o a w K Q else E := by
  have hw : Region.wanted o (yielded ops a.tmps) = true := by simp [Region.wanted, hg]
  rw [if_pos hw]
  unfold Oper.wp
  simp [execOp, hop, resolve, invoke, builtin, hd, hx, hr, Result.andThen]
  exact hK
theorem step_own1 {P : Program} {ops : Array Oper} {o : Oper} {a : Act} {w : World} {K : Act → World → Prop} {Q : Exit → Act → World → Prop} {E : Prop}
    (hg : o.guard = none) (d x : Operand) (t : TypeId) (hop : o.op = Op.call { callee := Callee.builtin Builtin.append, args := #[d, x], argTypes := #[t, t] })
    (base : Nat) (e : TypeId) (i : TypeInfo) (z : Value) (size bytes : Nat) (ht : P.underlying t = some (.slice e)) (hi : P.info? e = some i) (hz : i.zero = some z) (hsize : i.size = size) (hby : i.bytes = bytes) (hzs : z.cells.size = size) (hsz : 0 < size)
    (A : Option Addr) (n c : Nat) (xs : List Value) (hd : a.eval d = .slice A n c) (hown : w.ownsRow base e size (.slice A n c) n xs)
    (B : Nat) (A2 : Option Addr) (m c2 : Nat) (news : List Value) (hx : a.eval x = .slice A2 m c2) (hl : Lies w B size A2 m news) (h1 : ∀ u ∈ news, u.oneCell' = true)
    (h63 : n + m ≤ maxLen) (hbytes : (n + m) * bytes ≤ 140737488355328) (hb : base ≤ w.heap.size)
    (h : ∀ A' c' w', w'.ownsRow base e size (.slice A' (n + m) c') (n + m) (xs ++ news) → Below base w w' → w.grownBy w' (Value.slice A n c).ownBlock → K (a.put o.dst (.slice A' (n + m) c')) w') :
    if Region.wanted o (yielded ops a.tmps) = true then Oper.wp P o a w K Q else E := by
  obtain ⟨A', c', w', hr, h2, h3, h4, _⟩ := run_app (P := P) w base t o.type e i z size bytes ht hi hz hsize hby hzs hsz A n c xs hown B A2 m c2 news hl h1 h63 hbytes hb
  exact step_app hg d x t t hop _ _ hd hx hr (h A' c' w' h2 h3 h4)
theorem step_own2 {P : Program} {ops : Array Oper} {o : Oper} {a : Act} {w : World} {K : Act → World → Prop} {Q : Exit → Act → World → Prop} {E : Prop}
    (hg : o.guard = none) (d x : Operand) (t : TypeId) (hop : o.op = Op.call { callee := Callee.builtin Builtin.append, args := #[d, x], argTypes := #[t, t] })
    (base : Nat) (e : TypeId) (i : TypeInfo) (z : Value) (size bytes : Nat) (ht : P.underlying t = some (.slice e)) (hi : P.info? e = some i) (hz : i.zero = some z) (hsize : i.size = size) (hby : i.bytes = bytes) (hzs : z.cells.size = size) (hsz : 0 < size)
    (A : Option Addr) (n c : Nat) (xs : List Value) (hd : a.eval d = .slice A n c) (hown : w.ownsRow base e size (.slice A n c) n xs)
    (B : Nat) (A2 : Option Addr) (m c2 : Nat) (news : List Value) (hx : a.eval x = .slice A2 m c2) (hl : Lies w B size A2 m news) (h1 : ∀ u ∈ news, u.oneCell' = true)
    (k : Nat) (hk : n + m = k) (h63 : n + m ≤ maxLen) (hbytes : (n + m) * bytes ≤ 140737488355328) (hb : base ≤ w.heap.size)
    (h : ∀ A' c' w', w'.ownsRow base e size (.slice A' k c') k (xs ++ news) → Below base w w' → K (a.put o.dst (.slice A' k c')) w') :
    if Region.wanted o (yielded ops a.tmps) = true then Oper.wp P o a w K Q else E := by
  subst hk
  exact step_own1 hg d x t hop base e i z size bytes ht hi hz hsize hby hzs hsz A n c xs hd hown B A2 m c2 news hx hl h1 h63 hbytes hb (fun A' c' w' h2 h3 _ => h A' c' w' h2 h3)
end Go.Proofs.Ytdpmlpclhojcjaa
