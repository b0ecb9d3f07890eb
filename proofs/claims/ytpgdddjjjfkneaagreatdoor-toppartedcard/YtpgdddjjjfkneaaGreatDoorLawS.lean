import Derived.Test.YtpgdddjjjfkneaaGreatDoorWf
import Derived.Test.YtpgdddjjjfkneaaGreatDoorWo
import Derived.Test.YtpgdddjjjfkneaaGreatDoorWc
import Derived.BigQuiet
import Derived.Deep.RegionHeld3
import Derived.Deep.RegionLaw
import Derived.Deep.DeepCutAuto
/-
  The walk of WorkSeq: up to where the partitions begin. No condition but that the numbers are of 64 bits.
-/
namespace Go.Proofs.YtpgdddjjjfkneaaGreatDoor
open Go.ChangeShapes Go.WideShapes Go.ChangeAt Go.RowKit
set_option linter.unusedVariables false

/-- Of a state box. -/
def At4 (b : Nat) (cs : Array Value) (W : World) : Prop := W.heap[b]? = some (.cells cs 39 (0, 0))
theorem At4.next {b : Nat} {cs : Array Value} {W W' : World} (h : At4 b cs W) (hb : Below W.heap.size W W') : At4 b cs W' := (hb.block _ (lt_of_block h)).trans h
theorem Lm.row {N : Int} {es : List Ed} {p s l q : Int} {S : St} {i : Nat} {did : List Pe} {L : List Li} (h : Lm N es p s l q S i did L) {k : Nat} (hk : k < L.length) : L[k].ls.length = i := by
  have := congrArg List.length (h.lm k hk)
  simpa using this
theorem Lk.row {N : Int} {es : List Ed} {p s l q : Int} {S : St} {i k : Nat} {did : List Pe} {L : List Li} (h : Lk N es p s l q S i k did L) (hk : k < L.length) : L[k].ls.length = i := by
  have := congrArg List.length (h.lm k hk)
  rw [if_neg (Nat.lt_irrefl _)] at this
  simpa using this
theorem Lo.next {g : Nat} {D : Value} {L : List Li} {DO : Option Addr} {os : List Le} {W W' : World} (h : Lo g D L DO os W) (hb : Below W.heap.size W W') : Lo g D L DO os W' := ⟨h.row.next hb, fun e he => Fx.next (h.el e he) hb⟩
theorem Lo.app {g : Nat} {D D' : Value} {L : List Li} {DO : Option Addr} {os : List Le} {W W' : World} (h : Lo g D L DO os W) (hg : W.grownBy W' D.ownBlock) (hw : D'.ownBlock = D.ownBlock ∨ D'.ownBlock = some W.heap.size) : Lo g D' L DO os W' :=
  ⟨h.row.app hg hw, fun e he => Fx.app (h.el e he) hg hw⟩
theorem Lo.put {g n k : Nat} {D : Value} {L : List Li} {DO : Option Addr} {os : List Le} {W W' : World} (h : Lo g D L DO os W) (hk : k < L.length) {x : Le} (hn : n = L[k].ls.length + 1) {A' : Option Addr} {c' : Nat} (hg : W.grownBy W' L[k].v.ownBlock)
    (hw : (Value.slice A' n c').ownBlock = L[k].v.ownBlock ∨ (Value.slice A' n c').ownBlock = some W.heap.size) : Lo g D (L.set k ⟨A', c', L[k].ls ++ [x]⟩) DO os (W'.setCell ⟨g, k, none⟩ (.slice A' n c')) :=
  ⟨h.row.putw k hk hn hg hw, fun e he => Fx.putw (h.el e he) k hk hn hg hw⟩
theorem flat_len {α β : Type} (f : α → List β) (B : Nat) : ∀ (l : List α), (∀ x ∈ l, (f x).length ≤ B) → (l.flatMap f).length ≤ l.length * B := by
  intro l
  induction l with
  | nil => intro _; exact Nat.zero_le _
  | cons a r ih =>
    intro h
    rw [List.flatMap_cons, List.length_append, List.length_cons, Nat.succ_mul]
    have h1 := h a List.mem_cons_self
    have h2 := ih fun x hx => h x (List.mem_cons_of_mem _ hx)
    omega
theorem insK_facts {N : Int} {es : List Ed} {p s l q : Int} {S : St} (h : rightB N es p s l q S = true) (hok : Ok S) (h5 : NN p S) (k : Nat) : (insK N es p s l q S k).length ≤ 100000 ∧ ∀ e ∈ insK N es p s l q S k, bd e.2 := by
  obtain ⟨w1, w2, w3, w4⟩ := sent_facts (N := N) (es := es) (p := p) (s := s) (l := l) (q := q) h hok h5
  have hq := badJ_not (jchk_zero (right_of h).1).2
  have hN := jchk_N (right_of h).1
  have hr := right_of h
  constructor
  · have h1 := flat_len (fun i => fdR p (toK q.toNat k (doS N es p s l q (cutP N.toNat q.toNat S i)))) 2000 (List.range q.toNat) (fun i hi => by
      have a1 := fdR_len p (toK q.toNat k (doS N es p s l q (cutP N.toNat q.toNat S i)))
      have a2 : (toK q.toNat k (doS N es p s l q (cutP N.toNat q.toNat S i))).length ≤ (doS N es p s l q (cutP N.toNat q.toNat S i)).length := List.length_filter_le _ _
      have a3 : (doS N es p s l q (cutP N.toNat q.toNat S i)).length ≤ 80 * (cutP N.toNat q.toNat S i).vals.length := sentL_len (tP N es p s l q (cutP N.toNat q.toNat S i)) (tP_len _) _
      have a4 : (cutP N.toNat q.toNat S i).vals.length ≤ N.toNat := by
        rw [cut_len]
        unfold verts
        have := List.length_filter_le (fun v => v % q.toNat == i) (List.range N.toNat)
        rwa [List.length_range] at this
      show (fdR p (toK q.toNat k (doS N es p s l q (cutP N.toNat q.toNat S i)))).length ≤ 2000
      omega)
    rw [List.length_range] at h1
    unfold insK
    have : q.toNat * 2000 ≤ 6 * 2000 := Nat.mul_le_mul_right _ (by omega)
    omega
  · intro e he
    unfold insK at he
    obtain ⟨i, hi, he⟩ := List.mem_flatMap.1 he
    exact fdR_bd (fun x hx => w1 x (w4 i (List.mem_range.1 hi) x (toK_mem.1 hx).1)) e he
/-- What Do leaves in the loop's variables. -/
def DoCut (r : Pt × List (List Ms) × Int) (wo : World) (s14 s15 s16 : Value) (W : World) : Prop :=
  ∃ bz Q T Z1 z1 Z2 z2 Z3 z3 DO os, s14 = .pointer (some ⟨bz, 0, none⟩) ∧ s15 = .slice DO os.length os.length ∧ s16 = .int .i64 r.2.2 ∧ Below wo.heap.size wo W ∧ At5 bz #[.int .i64 Q, .int .i64 T.step, .slice Z1 T.vals.length z1, .slice Z2 T.rest.length z2, .slice Z3 T.inn.length z3] W ∧ mkP Q T = r.1 ∧ os.map Le.ms = r.2.1 ∧
    StL W W.heap.size T Z1 z1 Z2 z2 Z3 z3 ∧ Lls W W.heap.size DO os.length os ∧ Fr wo.heap.size Z1 ∧ Fr wo.heap.size Z2 ∧ Fr wo.heap.size Z3 ∧ Fr wo.heap.size DO ∧ ∀ e ∈ os, Fr wo.heap.size e.A
def TkCut (r : Pt × Int) (wo : World) (s20 s21 : Value) (W : World) : Prop :=
  ∃ bz Q T Z1 z1 Z2 z2 Z3 z3, s20 = .pointer (some ⟨bz, 0, none⟩) ∧ s21 = .int .i64 r.2 ∧ Below wo.heap.size wo W ∧ At5 bz #[.int .i64 Q, .int .i64 T.step, .slice Z1 T.vals.length z1, .slice Z2 T.rest.length z2, .slice Z3 T.inn.length z3] W ∧ mkP Q T = r.1 ∧
    StL W W.heap.size T Z1 z1 Z2 z2 Z3 z3 ∧ Fr wo.heap.size Z1 ∧ Fr wo.heap.size Z2 ∧ Fr wo.heap.size Z3
/-- The first loop: partitions are done. -/
def D1Rel (N : Int) (es : List Ed) (p s l q : Int) (S : St) (m : Nat) (wb : World) (g : Nat) (a i : Value) (W : World) : Prop :=
  ∃ (k : Nat) (DA : Option Addr) (dc : Nat) (did : List Pe) (L : List Li), i = .int .i64 k ∧ k ≤ m ∧ a = .slice DA did.length dc ∧ Hid (Lm N es p s l q S k did L) ∧ Hid (Lw wb g DA dc did L W)
def D2Rel (N : Int) (es : List Ed) (p s l q : Int) (S : St) (m k : Nat) (wb : World) (g : Nat) (DA : Option Addr) (dc : Nat) (did : List Pe) (DO : Option Addr) (os : List Le) (i : Value) (W : World) : Prop :=
  ∃ (j : Nat) (L : List Li), i = .int .i64 j ∧ j ≤ m ∧ Hid (Lk N es p s l q S k j did L) ∧ Hid (Lw wb g DA dc did L W) ∧ Hid (Lo g (.slice DA did.length dc) L DO os W)
/-- The second loop: partitions take what came. -/
structure Lt (N : Int) (es : List Ed) (p s l q : Int) (S : St) (i : Nat) (all : List Pe) : Prop where
  dl : all.length = i
  dx : ∀ j (h : j < all.length), all[j].x = (tI N es p s l q S j).1
  ok : ∀ j, j < i → (tI N es p s l q S j).2 = 0
theorem Lt.done {N : Int} {es : List Ed} {p s l q : Int} {S : St} {i : Nat} {all : List Pe} (h : Lt N es p s l q S i all) {e : Pe} (he : e.x = (tI N es p s l q S i).1) (h0 : (tI N es p s l q S i).2 = 0) : Lt N es p s l q S (i + 1) (all ++ [e]) := by
  refine ⟨by rw [List.length_append, h.dl]; rfl, fun j hj => ?_, fun j hj => ?_⟩
  · rw [List.length_append, List.length_singleton] at hj
    by_cases hl : j < all.length
    · rw [List.getElem_append_left hl]; exact h.dx j hl
    · obtain rfl : j = all.length := by omega
      rw [List.getElem_concat_length rfl, he, h.dl]
  · by_cases hl : j < i
    · exact h.ok j hl
    · obtain rfl : j = i := by omega
      exact h0
end Go.Proofs.YtpgdddjjjfkneaaGreatDoor

