import Derived.Sort.LotA
import Derived.Test.YtgfcgeiifinmmaaPa
import Derived.Test.YtgfcgeiifinmmaaPc
import Derived.Test.YtgfcgeiifinmmaaChecked
import Derived.Shelf.SlSortFuncK.RowK2
import Derived.Shelf.SlSortCmp.QuietGrown
import Derived.Deep.LoopGhost
import Derived.Lib.SmallJoins
import Derived.BigRegion
import Derived.BigQuiet
import Derived.Sort.WalkA
import Derived.Lib.AppendZeros
import Derived.Deep.DeepMust
/-
  Plain mathematics of a stable sort by merges in place: exchanging two ranges, turning a range round a place, and the merge of two sorted ranges by halves (symmetric merge). No program in this text. No condition.
-/
namespace Go.Proofs.Ytgfcgeiifinmmaa
open Go.Sort
set_option linter.unusedVariables false
variable {α : Type} [Inhabited α]

/-- What stands from a to m, and from m to b, in the other order. -/
def rotA (d : Array α) (a m b t : Nat) : α := if a ≤ t ∧ t < a + (b - m) then d[m + (t - a)]! else if a + (b - m) ≤ t ∧ t < b then d[a + (t - (a + (b - m)))]! else d[t]!
variable {lt : α → α → Bool}

omit [Inhabited α] in
theorem asym (W : SWO lt) {x y : α} (h : lt x y = true) : lt y x = false := by
  cases e : lt y x with
  | false => rfl
  | true => have := W.trans x y x h e; rw [W.irrefl] at this; cases this
theorem SortedIn.le (W : SWO lt) {a b : Nat} {d : Array α} (h : SortedIn lt a b d) {i j : Nat} (h1 : a ≤ i) (h2 : i ≤ j) (h3 : j < b) : lt d[j]! d[i]! = false := by
  rcases Nat.lt_or_eq_of_le h2 with h4 | rfl
  · exact h i j h1 h4 h3
  · exact W.irrefl _
/-- Behind the search and the turning: four sorted ranges, and nothing of the upper half is less than anything of the lower one. -/
structure Halves (lt : α → α → Bool) (d : Array α) (a s mid e b : Nat) : Prop where
  s1 : SortedIn lt a s d
  s2 : SortedIn lt s mid d
  s3 : SortedIn lt mid e d
  s4 : SortedIn lt e b d
  cr : ∀ i j, a ≤ i → i < mid → mid ≤ j → j < b → lt d[j]! d[i]! = false
theorem halves (W : SWO lt) {d d' : Array α} {a m b mid s e : Nat} (hA : SortedIn lt a m d) (hB : SortedIn lt m b d) (h1 : a ≤ s) (h2 : s ≤ m) (h3 : m ≤ e) (h4 : e ≤ b) (hm : s + e = mid + m)
    (c1 : s = a ∨ e = b ∨ lt d[e]! d[s - 1]! = false) (c2 : s = m ∨ e = m ∨ lt d[e - 1]! d[s]! = true) (h : ∀ t, d'[t]! = rotA d s m e t) : Halves lt d' a s mid e b := by
  have v1 : ∀ t, t < s → d'[t]! = d[t]! := fun t ht => by rw [h]; unfold rotA; rw [if_neg (by omega), if_neg (by omega)]
  have v2 : ∀ t, s ≤ t → t < mid → d'[t]! = d[m + (t - s)]! := fun t ht ht2 => by rw [h]; unfold rotA; rw [if_pos (by omega)]
  have v3 : ∀ t, mid ≤ t → t < e → d'[t]! = d[s + (t - mid)]! := fun t ht ht2 => by
    rw [h]; unfold rotA; rw [if_neg (by omega), if_pos (by omega)]
    congr 1; omega
  have v4 : ∀ t, e ≤ t → d'[t]! = d[t]! := fun t ht => by rw [h]; unfold rotA; rw [if_neg (by omega), if_neg (by omega)]
  refine ⟨?_, ?_, ?_, ?_, ?_⟩
  · intro i j hi hij hj; rw [v1 i (by omega), v1 j hj]; exact hA _ _ hi hij (by omega)
  · intro i j hi hij hj; rw [v2 i hi (by omega), v2 j (by omega) hj]; exact hB _ _ (by omega) (by omega) (by omega)
  · intro i j hi hij hj; rw [v3 i hi (by omega), v3 j (by omega) hj]; exact hA _ _ (by omega) (by omega) (by omega)
  · intro i j hi hij hj; rw [v4 i (by omega), v4 j (by omega)]; exact hB _ _ (by omega) (by omega) (by omega)
  · intro i j hi him hj hjb
    by_cases k1 : i < s
    · rw [v1 i k1]
      by_cases k2 : j < e
      · rw [v3 j hj k2]; exact hA _ _ hi (by omega) (by omega)
      · rw [v4 j (by omega)]
        rcases c1 with c | c | c
        · omega
        · omega
        · exact W.ntrans _ _ _ (W.ntrans _ _ _ (SortedIn.le W hB (by omega) (show e ≤ j by omega) hjb) c) (SortedIn.le W hA hi (show i ≤ s - 1 by omega) (by omega))
    · rw [v2 i (by omega) him]
      by_cases k2 : j < e
      · rw [v3 j hj k2]
        rcases c2 with c | c | c
        · omega
        · omega
        · exact W.ntrans _ _ _ (W.ntrans _ _ _ (SortedIn.le W hA (by omega) (show s ≤ s + (j - mid) by omega) (by omega)) (asym W c)) (SortedIn.le W hB (by omega) (show m + (i - s) ≤ e - 1 by omega) (by omega))
      · rw [v4 j (by omega)]; exact hB _ _ (by omega) (by omega) hjb
theorem sorted_same {a b : Nat} {d d' : Array α} (h : SortedIn lt a b d) (e : ∀ i, a ≤ i → i < b → d'[i]! = d[i]!) : SortedIn lt a b d' := by
  intro i j hi hij hj
  rw [e i hi (by omega), e j (by omega) hj]
  exact h i j hi hij hj
/-- Those below q by 2 * s, those from there by s. -/
def BlkAt (lt : α → α → Bool) (s n q : Nat) (d : Array α) : Prop := (∀ k, k < q → SortedIn lt (k * (2 * s)) (min (k * (2 * s) + 2 * s) n) d) ∧ ∀ k, 2 * q ≤ k → SortedIn lt (k * s) (min (k * s + s) n) d
/-- The first phase: those below q are sorted. -/
def BlkTo (lt : α → α → Bool) (s n q : Nat) (d : Array α) : Prop := ∀ k, k < q → SortedIn lt (k * s) (min (k * s + s) n) d
theorem BlkTo.step {s n q : Nat} {d d' : Array α} (hn : n ≤ d.size) (h : BlkTo lt s n q d) (hp : PermIn (q * s) (q * s + s) d d') (hs : SortedIn lt (q * s) (q * s + s) d') : BlkTo lt s n (q + 1) d' := by
  intro k hk
  by_cases e : k = q
  · subst e
    intro i j hi hij hj
    exact hs i j hi hij (by omega)
  · have hlt : k + 1 ≤ q := by omega
    have := Nat.mul_le_mul_right s hlt
    rw [Nat.add_mul, Nat.one_mul] at this
    exact sorted_same (h k (by omega)) (fun i _ hi => hp.2.1 i (by omega))
theorem two_mul_q (q s : Nat) : q * (2 * s) = 2 * q * s := by rw [← Nat.mul_assoc, Nat.mul_comm q 2]
theorem BlkAt.step {s n q : Nat} {d d' : Array α} (h : BlkAt lt s n q d) (e : Nat) (he : e = min (q * (2 * s) + 2 * s) n) (hp : PermIn (q * (2 * s)) e d d') (hs : SortedIn lt (q * (2 * s)) e d') : BlkAt lt s n (q + 1) d' := by
  refine ⟨fun k hk => ?_, fun k hk => ?_⟩
  · by_cases c : k = q
    · subst c; rw [← he]; exact hs
    · have := Nat.mul_le_mul_right (2 * s) (show k + 1 ≤ q by omega)
      rw [Nat.add_mul, Nat.one_mul] at this
      exact sorted_same (h.1 k (by omega)) (fun i _ hi => hp.2.1 i (by omega))
  · have h1 := Nat.mul_le_mul_right s (show 2 * q + 2 ≤ k by omega)
    rw [Nat.add_mul, ← two_mul_q] at h1
    exact sorted_same (h.2 k (by omega)) (fun i hi _ => hp.2.1 i (by omega))
end Go.Proofs.Ytgfcgeiifinmmaa

/-
  Messages as pairs of numbers and as cells; their order; the contracts of cmp.Compare, cmp.Or and compare. No condition.
-/
namespace Go.Proofs.Ytgfcgeiifinmmaa
open Go.RowKit Go.Sort
set_option linter.unusedVariables false

def me (m : Ms) : List Value := [.int .i64 m.1, .int .i64 m.2]
def c3 (a b : Int) : Int := if a < b then -1 else if b < a then 1 else 0
theorem c3_lt {a b : Int} (h : a < b) : c3 a b = -1 := by unfold c3; rw [if_pos h]
theorem c3_gt {a b : Int} (h : b < a) : c3 a b = 1 := by unfold c3; rw [if_neg (by omega), if_pos h]
theorem c3_eq (a : Int) : c3 a a = 0 := by unfold c3; simp
/-- The order of two messages, as a number. -/
def cmpM (a b : Ms) : Int := orI (c3 a.1 b.1) (c3 a.2 b.2)
/-- Does one stand ahead of the other? -/
def ltM (a b : Ms) : Bool := decide (cmpM a b < 0)
theorem ltM_iff (a b : Ms) : ltM a b = true ↔ (a.1 < b.1 ∨ (a.1 = b.1 ∧ a.2 < b.2)) := by
  unfold ltM cmpM orI c3
  rw [decide_eq_true_iff]
  repeat' split
  all_goals first | (constructor <;> intro h <;> omega) | omega
theorem ltM_not (a b : Ms) : ltM a b = false ↔ ¬ (a.1 < b.1 ∨ (a.1 = b.1 ∧ a.2 < b.2)) := by
  rw [← ltM_iff]; cases ltM a b <;> simp
theorem ltM_swo : SWO ltM where
  irrefl x := by rw [ltM_not]; omega
  trans x y z h1 h2 := by rw [ltM_iff] at *; omega
  ntrans x y z h1 h2 := by rw [ltM_not] at *; omega
theorem ltM_total (x y : Ms) (h1 : ltM x y = false) (h2 : ltM y x = false) : x = y := by
  rw [ltM_not] at h1 h2
  have : x.1 = y.1 ∧ x.2 = y.2 := by omega
  exact Prod.ext this.1 this.2
theorem compareI_any (x y : Int) (w : World) : Calls Try.prog 40 #[.int .i64 x, .int .i64 y] w fun e w' => e = .returned (.int .i64 (c3 x y)) ∧ w = w' := by
  rcases Int.lt_trichotomy x y with h | h | h
  · have HV := Lib.hid (c3_lt h)
    go_enter Try.func40, Try.ntmps40
    go_wp2
    go_ret
    exact ⟨ret_int HV.out.symm, rfl⟩
  · subst h
    have HV := Lib.hid (c3_eq x)
    go_enter Try.func40, Try.ntmps40
    go_wp2
    go_ret
    exact ⟨ret_int HV.out.symm, rfl⟩
  · have HV := Lib.hid (c3_gt h)
    have h2 : ¬ x < y := by omega
    go_enter Try.func40, Try.ntmps40
    go_wp2
    go_ret
    exact ⟨ret_int HV.out.symm, rfl⟩
theorem compareI_still (x y : Int) (w : World) : Calls Try.prog 40 #[.int .i64 x, .int .i64 y] w fun e w' => e = .returned (.int .i64 (c3 x y)) ∧ w' = w := (compareI_any x y w).mono fun _ _ ⟨a, b⟩ => ⟨a, b.symm⟩
theorem grown3 (w : World) (A B C : Obj) : (((w.alloc A).alloc B).alloc C).drew = grow (w.drewN 1) (#[A] ++ #[B] ++ #[C]) := by
  rw [alloc_eq_grow, alloc_eq_grow, alloc_eq_grow, grow_grow, grow_grow]; rfl
end Go.Proofs.Ytgfcgeiifinmmaa

/-
  The worlds that a sort in place passes through: a row of messages in one block, all else as it was, blocks and draws behind. What a walk wants of them: loads, comparisons, exchanges. No condition.
-/
namespace Go.Proofs.Ytgfcgeiifinmmaa
open Go.RowKit Go.Sort
set_option linter.unusedVariables false

/-- W is w0 with the row at (blk, off) holding dk, some draws and some blocks on. -/
def Sw (w0 : World) (blk off : Nat) (dk : Array Ms) (W : World) : Prop := ∃ n os, W = grow (putRowK me 2 (Sort.ahead w0 n) blk off dk) os
variable {w0 W : World} {blk off N : Nat} {dk : Array Ms}

theorem Sw.start (h : HoldsK me 2 w0 blk off dk) : Sw w0 blk off dk w0 := ⟨0, #[], by rw [grow_empty]; exact (putRowK_self me 2 w0 blk off dk h).symm⟩
theorem Sw.grown (h : Sw w0 blk off dk W) (n : Nat) (os : Array Obj) : Sw w0 blk off dk (grow (W.drewN n) os) := by
  obtain ⟨m, os0, rfl⟩ := h
  refine ⟨m + n, os0 ++ os, ?_⟩
  show grow (grow ((putRowK me 2 (Sort.ahead w0 m) blk off dk).drewN n) os0) os = _
  rw [grow_grow, putRowK_drewN]
theorem Sw.drew (h : Sw w0 blk off dk W) : Sw w0 blk off dk W.drew := by
  have := h.grown 1 #[]
  rw [grow_empty] at this
  exact this
/-- The row, told once. -/
structure Row (w0 : World) (blk off N : Nat) : Prop where
  hH : ∃ d0 : Array Ms, d0.size = N ∧ HoldsK me 2 w0 blk off d0
  hblk : blk < w0.heap.size
theorem Sw.holds (h : Sw w0 blk off dk W) (R : Row w0 blk off N) (hs : dk.size = N) : HoldsK me 2 W blk off dk := by
  obtain ⟨n, os, rfl⟩ := h
  obtain ⟨d0, h0, hH⟩ := R.hH
  subst h0
  exact holdsK_grow me 2 _ os blk off dk (by rw [size_putRowK]; exact R.hblk) (holdsK_putRowK me 2 _ blk off d0 dk (holdsK_ahead me 2 w0 n blk off d0 hH) hs)
theorem Sw.cell (h : Sw w0 blk off dk W) (R : Row w0 blk off N) (hs : dk.size = N) {i : Nat} (hi : i < dk.size) :
    W.cell? ⟨blk, off + i * 2, none⟩ = some (.int .i64 dk[i]!.1) ∧ W.cell? ⟨blk, off + i * 2 + 1, none⟩ = some (.int .i64 dk[i]!.2) := by
  have a := (HoldsK.cell (h.holds R hs) hi (c := 0) (by decide)).1
  have b := (HoldsK.cell (h.holds R hs) hi (c := 1) (by decide)).1
  exact ⟨a, b⟩
end Go.Proofs.Ytgfcgeiifinmmaa

/-
  Plain mathematics of messages: as cells, in order, folded; folded in parts. No condition.
-/
namespace Go.Proofs.Ytgfcgeiifinmmaa
open Go.RowKit Go.Sort
set_option linter.unusedVariables false

theorem mAt_get (ms : List Ms) (k : Nat) (h : k < ms.length) : mAt ms k = ms[k] := by unfold mAt; simp [List.getD, List.getElem?_eq_getElem h]
theorem mc_set (ms : List Ms) (k : Nat) (x y : Int) : ((mc ms).set (k * 2) (.int .i64 x)).set (k * 2 + 1) (.int .i64 y) = mc (ms.set k (x, y)) := by
  induction ms generalizing k with
  | nil => simp [mc]
  | cons e r ih =>
    cases k with
    | zero => simp [mc]
    | succ k =>
      have := ih k
      have e1 : (k + 1) * 2 = k * 2 + 1 + 1 := by omega
      rw [e1]
      show (((Value.int .i64 e.1 :: Value.int .i64 e.2 :: mc r).set (k * 2 + 1 + 1) _).set (k * 2 + 1 + 1 + 1) _) = Value.int .i64 e.1 :: Value.int .i64 e.2 :: mc (r.set k (x, y))
      rw [← this]; rfl
theorem mc_set2 (ms : List Ms) (k : Nat) (h : k < ms.length) (y : Int) : (mc ms).set (k * 2 + 1) (.int .i64 y) = mc (ms.set k ((mAt ms k).1, y)) := by
  rw [← mc_set]
  congr 1
  apply List.ext_getElem?
  intro j
  rw [List.getElem?_set]
  split
  · rename_i e
    subst e
    rw [if_pos (by rw [mc_length]; omega)]
    exact (mc_at ms k h).1
  · rfl
/-- A message is put at its place. -/
def ins (m : Ms) : List Ms → List Ms
  | [] => [m]
  | x :: r => if ltM m x then m :: x :: r else x :: ins m r
/-- Messages in order. -/
def msort : List Ms → List Ms
  | [] => []
  | m :: r => ins m (msort r)
theorem ins_perm (m : Ms) (l : List Ms) : (ins m l).Perm (m :: l) := by
  induction l with
  | nil => exact List.Perm.refl _
  | cons x r ih =>
    unfold ins
    split
    · exact List.Perm.refl _
    · exact (List.Perm.cons x ih).trans (List.Perm.swap m x r)
theorem msort_perm (l : List Ms) : (msort l).Perm l := by
  induction l with
  | nil => exact List.Perm.refl _
  | cons m r ih => exact (ins_perm m _).trans (List.Perm.cons m ih)
theorem msort_len (l : List Ms) : (msort l).length = l.length := (msort_perm l).length_eq
/-- In order. -/
def Srt (l : List Ms) : Prop := l.Pairwise fun a b => ltM b a = false
theorem ins_srt (m : Ms) (l : List Ms) (h : Srt l) : Srt (ins m l) := by
  induction l with
  | nil => exact List.pairwise_singleton _ _
  | cons x r ih =>
    obtain ⟨h1, h2⟩ := List.pairwise_cons.1 h
    unfold ins
    split
    · rename_i hl
      refine List.pairwise_cons.2 ⟨fun y hy => ?_, h⟩
      have hx : ltM x m = false := asym ltM_swo hl
      rcases List.mem_cons.1 hy with rfl | hy
      · exact hx
      · exact ltM_swo.ntrans y x m (h1 y hy) hx
    · rename_i hl
      refine List.pairwise_cons.2 ⟨fun y hy => ?_, ih h2⟩
      rcases List.mem_cons.1 ((ins_perm m r).mem_iff.1 hy) with rfl | hy
      · simpa using hl
      · exact h1 y hy
theorem msort_srt (l : List Ms) : Srt (msort l) := by
  induction l with
  | nil => exact List.Pairwise.nil
  | cons m r ih => exact ins_srt m _ ih
theorem srt_uniq (a b : List Ms) (ha : Srt a) (hb : Srt b) (h : a.Perm b) : a = b := by
  induction a generalizing b with
  | nil => exact (List.nil_perm.1 h).symm
  | cons x a ih =>
    cases b with
    | nil => exact absurd h.length_eq (by simp)
    | cons y b =>
      obtain ⟨a1, a2⟩ := List.pairwise_cons.1 ha
      obtain ⟨b1, b2⟩ := List.pairwise_cons.1 hb
      have e : x = y := by
        rcases List.mem_cons.1 (h.mem_iff.1 (List.mem_cons_self ..)) with e | hx
        · exact e
        rcases List.mem_cons.1 (h.mem_iff.2 (List.mem_cons_self ..)) with e | hy
        · exact e.symm
        exact ltM_total x y (b1 x hx) (a1 y hy)
      subst e
      rw [ih b a2 b2 (List.Perm.cons_inv h)]
theorem msort_of {a b : List Ms} (h : a.Perm b) : msort a = msort b :=
  srt_uniq _ _ (msort_srt a) (msort_srt b) ((msort_perm a).trans (h.trans (msort_perm b).symm))
theorem msort_is {a b : List Ms} (h : b.Perm a) (hs : Srt b) : b = msort a := srt_uniq _ _ hs (msort_srt a) (h.trans (msort_perm a).symm)
theorem srt_to {l : List Ms} (h : Srt l) : l.Pairwise fun a b => a.1 ≤ b.1 := h.imp fun {a b} e => by rw [ltM_not] at e; omega
/-- Two numbers together, however great. -/
def ex (p a b : Int) : Int := if p = 5 then a + b else if p = 4 then greatI a b else lessI a b
/-- Something, or nothing, together. -/
def cmb (p : Int) : Option Int → Option Int → Option Int
  | none, b => b
  | some a, none => some a
  | some a, some b => some (ex p a b)
/-- What came to t in all. -/
def tot (p t : Int) : List Ms → Option Int
  | [] => none
  | m :: r => if m.1 = t then cmb p (some m.2) (tot p t r) else tot p t r
theorem tot_none {p t : Int} {l : List Ms} : tot p t l = none ↔ ∀ m ∈ l, m.1 ≠ t := by
  induction l with
  | nil => simp [tot]
  | cons m r ih =>
    simp only [tot]
    by_cases e : m.1 = t
    · rw [if_pos e]
      constructor
      · intro h
        cases hr : tot p t r <;> rw [hr] at h <;> cases h
      · intro h; exact absurd e (h m (List.mem_cons_self ..))
    · rw [if_neg e, ih]
      constructor
      · intro h x hx
        rcases List.mem_cons.1 hx with rfl | hx
        · exact e
        · exact h x hx
      · intro h x hx; exact h x (List.mem_cons_of_mem _ hx)
theorem tot_some {p t v : Int} {l : List Ms} (h : tot p t l = some v) : ∃ m ∈ l, m.1 = t := by
  apply Classical.byContradiction
  intro hn
  rw [tot_none.2 (fun m hm e => hn ⟨m, hm, e⟩)] at h
  cases h
/-- Rising. -/
def Ris (l : List Ms) : Prop := l.Pairwise fun a b => a.1 < b.1
theorem ris_tot {p : Int} {m : Ms} {r : List Ms} (h : Ris (m :: r)) : tot p m.1 (m :: r) = some m.2 ∧ tot p m.1 r = none := by
  obtain ⟨h1, h2⟩ := List.pairwise_cons.1 h
  have e : tot p m.1 r = none := tot_none.2 fun x hx => by have := h1 x hx; omega
  refine ⟨?_, e⟩
  simp only [tot]
  rw [if_pos trivial, e]; rfl
theorem ris_one {l : List Ms} (h : Ris l) : ∀ a ∈ l, ∀ b ∈ l, a.1 = b.1 → a = b := by
  induction l with
  | nil => intro a ha; cases ha
  | cons m r ih =>
    obtain ⟨h1, h2⟩ := List.pairwise_cons.1 h
    intro a ha b hb e
    rcases List.mem_cons.1 ha with rfl | ha2
    · rcases List.mem_cons.1 hb with rfl | hb2
      · rfl
      · have := h1 b hb2; omega
    · rcases List.mem_cons.1 hb with rfl | hb2
      · have := h1 a ha2; omega
      · exact ih h2 a ha2 b hb2 e
theorem ris_uniq (p : Int) (x y : List Ms) (hx : Ris x) (hy : Ris y) (h : ∀ t, tot p t x = tot p t y) : x = y := by
  induction x generalizing y with
  | nil =>
    cases y with
    | nil => rfl
    | cons b y => have := h b.1; rw [(ris_tot hy).1] at this; cases this
  | cons a x ih =>
    cases y with
    | nil => have := h a.1; rw [(ris_tot hx).1] at this; cases this
    | cons b y =>
      obtain ⟨hx1, hx2⟩ := List.pairwise_cons.1 hx
      obtain ⟨hy1, hy2⟩ := List.pairwise_cons.1 hy
      have ha := h a.1
      rw [(ris_tot hx).1] at ha
      have hb := h b.1
      rw [(ris_tot hy).1] at hb
      obtain ⟨m, hm, e1⟩ := tot_some ha.symm
      obtain ⟨k, hk, e2⟩ := tot_some hb
      have le1 : b.1 ≤ a.1 := by
        rcases List.mem_cons.1 hm with rfl | hm
        · omega
        · have := hy1 m hm; omega
      have le2 : a.1 ≤ b.1 := by
        rcases List.mem_cons.1 hk with rfl | hk
        · omega
        · have := hx1 k hk; omega
      have e : a.1 = b.1 := by omega
      rw [← e, (ris_tot hx).1] at hb
      injection hb with hb
      have eab : a = b := Prod.ext e hb
      subst eab
      congr 1
      refine ih y hx2 hy2 fun t => ?_
      by_cases et : a.1 = t
      · subst et
        rw [(ris_tot (p := p) hx).2, (ris_tot (p := p) hy).2]
      · have := h t
        simp only [tot] at this
        rwa [if_neg et, if_neg et] at this
end Go.Proofs.Ytgfcgeiifinmmaa

/-
  A row of messages of the call's own, as the sort wants it and leaves it; the contracts of slices.Grow at nil, slices.SortStableFunc at a row of the call's own. No condition but that the messages are not too many.
-/
namespace Go.Proofs.Ytgfcgeiifinmmaa
open Go.RowKit Go.Sort
set_option linter.unusedVariables false

section
variable {w w' : World} {base g n cap : Nat} {l : List Ms}

theorem own_len {A : Option Addr} {c : Nat} (h : w.ownsRow base 61 2 (.slice A n c) n (mc l)) : l.length = n := by
  have := h.1
  rw [mc_length] at this
  omega
end

end Go.Proofs.Ytgfcgeiifinmmaa

/-
  The contracts of slices.Grow at nil, slices.Concat, sorted, Sort and Join: the messages of all lists, in order, in memory of the call's own. No condition but that the messages are not too many.
-/
namespace Go.Proofs.Ytgfcgeiifinmmaa
open Go.RowKit Go.Sort
set_option linter.unusedVariables false

/-- A list of messages: where it lies, how many, its room, the messages. -/
abbrev Ls := Option Addr × Nat × Nat × List Ms
def lc (ls : List Ls) : List Value := ls.map fun x => .slice x.1 x.2.1 x.2.2.1
/-- Lists of messages in memory. -/
structure LL (w : World) (B : Nat) (A : Option Addr) (n : Nat) (ls : List Ls) : Prop where
  lies : Lies w B 1 A n (lc ls)
  each : ∀ x ∈ ls, Lies w B 2 x.1 x.2.1 (mc x.2.2.2)
theorem LL.next {w w' : World} {A : Option Addr} {n : Nat} {ls : List Ls} (h : LL w w.heap.size A n ls) (hb : Below w.heap.size w w') : LL w' w'.heap.size A n ls :=
  ⟨h.lies.next hb, fun x hx => (h.each x hx).next hb⟩
theorem LL.below {w w' : World} {B : Nat} {A : Option Addr} {n : Nat} {ls : List Ls} (h : LL w B A n ls) (hb : Below B w w') : LL w' B A n ls :=
  ⟨h.lies.below hb, fun x hx => (h.each x hx).below hb⟩
theorem LL.more {w : World} {B B' : Nat} {A : Option Addr} {n : Nat} {ls : List Ls} (h : LL w B A n ls) (hB : B ≤ B') : LL w B' A n ls :=
  ⟨h.lies.more hB, fun x hx => (h.each x hx).more hB⟩
/-- What a call answers that makes messages. -/
def MlPost (l : List Ms) (w : World) (r : Ending) (w' : World) : Prop :=
  ∃ A c, r = .returned (.slice A l.length c) ∧ w'.ownsRow w.heap.size 61 2 (.slice A l.length c) l.length (mc l) ∧ Below w.heap.size w w'
theorem lies_cells (w : World) (vs : List Value) (t : TypeId) (n s : Nat) (hn : vs.length = n * s) : Lies (w.alloc (.cells vs.toArray t)) (w.heap.size + 1) s (some ⟨w.heap.size, 0, none⟩) n vs := by
  refine ⟨hn, fun j u hj => ⟨_, rfl, Nat.lt_succ_self _, ?_⟩⟩
  have : (⟨w.heap.size, 0, none⟩ : Addr).add j = ⟨w.heap.size, j, none⟩ := by unfold Addr.add; split <;> simp_all
  rw [this, cell_of_row _ _ j _ t (0, 0) (heap_alloc_new _ _)]
  simpa using hj
end Go.Proofs.Ytgfcgeiifinmmaa

