/-
  The walk of WorkSeq: up to where the partitions begin. No condition but that the numbers are of 64 bits.
-/
import Derived.Test.YtbjmbjibkifboaaGreatWn
import Derived.Test.YtbjmbjibkifboaaGreatWo
import Derived.Test.YtbjmbjibkifboaaGreatSd
import Derived.Test.YtbjmbjibkifboaaGreatWd
import Derived.Test.YtbjmbjibkifboaaGreatWe
import Derived.Test.YtbjmbjibkifboaaGreatWf
import Derived.Test.YtbjmbjibkifboaaGreatLawB
import Derived.Test.YtbjmbjibkifboaaGreatLawA
import Derived.Test.YtbjmbjibkifboaaGreatSl
import Derived.BigQuiet
import Derived.Deep.RegionHeld3
import Derived.Deep.RegionLaw
import Derived.Deep.DeepCutAuto
namespace Go.Proofs.YtbjmbjibkifboaaGreat
open Go.ChangeShapes Go.WideShapes Go.ChangeAt Go.RowKit
set_option linter.unusedVariables false

/-- Of a state box. -/
def At4 (b : Nat) (cs : Array Value) (W : World) : Prop := W.heap[b]? = some (.cells cs 31 (0, 0))
theorem At4.next {b : Nat} {cs : Array Value} {W W' : World} (h : At4 b cs W) (hb : Below W.heap.size W W') : At4 b cs W' := (hb.block _ (lt_of_block h)).trans h
theorem Lm.row {N : Int} {es : List Ed} {p s l q : Int} {S : St} {i : Nat} {did : List Pe} {L : List Li} (h : Lm N es p s l q S i did L) {k : Nat} (hk : k < L.length) : L[k].ls.length = i := by
  have := congrArg List.length (h.lm k hk)
  simpa using this
theorem Lk.row {N : Int} {es : List Ed} {p s l q : Int} {S : St} {i k : Nat} {did : List Pe} {L : List Li} (h : Lk N es p s l q S i k did L) (hk : k < L.length) : L[k].ls.length = i := by
  have := congrArg List.length (h.lm k hk)
  rw [if_neg (Nat.lt_irrefl _)] at this
  simpa using this
theorem Lo.next {g : Nat} {D : Value} {L : List Li} {DO : Option Addr} {os : List Le} {W W' : World} (h : Lo g D L DO os W) (hb : Below W.heap.size W W') : Lo g D L DO os W' := ⟨h.row.next hb, fun e he => Fx.next (h.el e he) hb⟩
theorem Lo.app {g : Nat} {D D' : Value} {L : List Li} {DO : Option Addr} {os : List Le} {W W' : World} (h : Lo g D L DO os W) (hg : W.grownBy W' D.ownBlock) (hw : D'.ownBlock = D.ownBlock ∨ D'.ownBlock = some W.heap.size) : Lo g D' L DO os W' :=
  ⟨h.row.app hg hw, fun e he => Fx.app (h.el e he) hg hw⟩
theorem Lo.put {g n k : Nat} {D : Value} {L : List Li} {DO : Option Addr} {os : List Le} {W W' : World} (h : Lo g D L DO os W) (hk : k < L.length) {x : Le} (hn : n = L[k].ls.length + 1) {A' : Option Addr} {c' : Nat} (hg : W.grownBy W' L[k].v.ownBlock)
    (hw : (Value.slice A' n c').ownBlock = L[k].v.ownBlock ∨ (Value.slice A' n c').ownBlock = some W.heap.size) : Lo g D (L.set k ⟨A', c', L[k].ls ++ [x]⟩) DO os (W'.setCell ⟨g, k, none⟩ (.slice A' n c')) :=
  ⟨h.row.putw k hk hn hg hw, fun e he => Fx.putw (h.el e he) k hk hn hg hw⟩

theorem flat_len {α β : Type} (f : α → List β) (B : Nat) : ∀ (l : List α), (∀ x ∈ l, (f x).length ≤ B) → (l.flatMap f).length ≤ l.length * B := by
  intro l
  induction l with
  | nil => intro _; exact Nat.zero_le _
  | cons a r ih =>
    intro h
    rw [List.flatMap_cons, List.length_append, List.length_cons, Nat.succ_mul]
    have h1 := h a List.mem_cons_self
    have h2 := ih fun x hx => h x (List.mem_cons_of_mem _ hx)
    omega
theorem insK_facts {N : Int} {es : List Ed} {p s l q : Int} {S : St} (h : rightB N es p s l q S = true) (hok : Ok S) (h5 : NN p S) (k : Nat) : (insK N es p s l q S k).length ≤ 100000 ∧ ∀ e ∈ insK N es p s l q S k, bd e.2 := by
  obtain ⟨w1, w2, w3, w4⟩ := sent_facts (N := N) (es := es) (p := p) (s := s) (l := l) (q := q) h hok h5
  have hq := badJ_not (jchk_zero (right_of h).1).2
  have hN := jchk_N (right_of h).1
  have hr := right_of h
  constructor
  · have h1 := flat_len (fun i => fdR p (toK q.toNat k (doS N es p s l q (cutP N.toNat q.toNat S i)))) 2000 (List.range q.toNat) (fun i hi => by
      have a1 := fdR_len p (toK q.toNat k (doS N es p s l q (cutP N.toNat q.toNat S i)))
      have a2 : (toK q.toNat k (doS N es p s l q (cutP N.toNat q.toNat S i))).length ≤ (doS N es p s l q (cutP N.toNat q.toNat S i)).length := List.length_filter_le _ _
      have a3 : (doS N es p s l q (cutP N.toNat q.toNat S i)).length ≤ 80 * (cutP N.toNat q.toNat S i).vals.length := sentL_len (tP N es p s l q (cutP N.toNat q.toNat S i)) (tP_len _) _
      have a4 : (cutP N.toNat q.toNat S i).vals.length ≤ N.toNat := by
        rw [cut_len]
        unfold verts
        have := List.length_filter_le (fun v => v % q.toNat == i) (List.range N.toNat)
        rwa [List.length_range] at this
      show (fdR p (toK q.toNat k (doS N es p s l q (cutP N.toNat q.toNat S i)))).length ≤ 2000
      omega)
    rw [List.length_range] at h1
    unfold insK
    have : q.toNat * 2000 ≤ 6 * 2000 := Nat.mul_le_mul_right _ (by omega)
    omega
  · intro e he
    unfold insK at he
    obtain ⟨i, hi, he⟩ := List.mem_flatMap.1 he
    exact fdR_bd (fun x hx => w1 x (w4 i (List.mem_range.1 hi) x (toK_mem.1 hx).1)) e he
/-- What Do leaves in the loop's variables. -/
def DoCut (r : Pt × List (List Ms) × Int) (wo : World) (s14 s15 s16 : Value) (W : World) : Prop :=
  ∃ bz Q T Z1 z1 Z2 z2 Z3 z3 DO os, s14 = .pointer (some ⟨bz, 0, none⟩) ∧ s15 = .slice DO os.length os.length ∧ s16 = .int .i64 r.2.2 ∧ Below wo.heap.size wo W ∧ At5 bz #[.int .i64 Q, .int .i64 T.step, .slice Z1 T.vals.length z1, .slice Z2 T.rest.length z2, .slice Z3 T.inn.length z3] W ∧ mkP Q T = r.1 ∧ os.map Le.ms = r.2.1 ∧
    StL W W.heap.size T Z1 z1 Z2 z2 Z3 z3 ∧ Lls W W.heap.size DO os.length os ∧ Fr wo.heap.size Z1 ∧ Fr wo.heap.size Z2 ∧ Fr wo.heap.size Z3 ∧ Fr wo.heap.size DO ∧ ∀ e ∈ os, Fr wo.heap.size e.A
def TkCut (r : Pt × Int) (wo : World) (s20 s21 : Value) (W : World) : Prop :=
  ∃ bz Q T Z1 z1 Z2 z2 Z3 z3, s20 = .pointer (some ⟨bz, 0, none⟩) ∧ s21 = .int .i64 r.2 ∧ Below wo.heap.size wo W ∧ At5 bz #[.int .i64 Q, .int .i64 T.step, .slice Z1 T.vals.length z1, .slice Z2 T.rest.length z2, .slice Z3 T.inn.length z3] W ∧ mkP Q T = r.1 ∧
    StL W W.heap.size T Z1 z1 Z2 z2 Z3 z3 ∧ Fr wo.heap.size Z1 ∧ Fr wo.heap.size Z2 ∧ Fr wo.heap.size Z3

/-- The first loop: partitions are done. -/
def D1Rel (N : Int) (es : List Ed) (p s l q : Int) (S : St) (m : Nat) (wb : World) (g : Nat) (a i : Value) (W : World) : Prop :=
  ∃ (k : Nat) (DA : Option Addr) (dc : Nat) (did : List Pe) (L : List Li), i = .int .i64 k ∧ k ≤ m ∧ a = .slice DA did.length dc ∧ Hid (Lm N es p s l q S k did L) ∧ Hid (Lw wb g DA dc did L W)
def D2Rel (N : Int) (es : List Ed) (p s l q : Int) (S : St) (m k : Nat) (wb : World) (g : Nat) (DA : Option Addr) (dc : Nat) (did : List Pe) (DO : Option Addr) (os : List Le) (i : Value) (W : World) : Prop :=
  ∃ (j : Nat) (L : List Li), i = .int .i64 j ∧ j ≤ m ∧ Hid (Lk N es p s l q S k j did L) ∧ Hid (Lw wb g DA dc did L W) ∧ Hid (Lo g (.slice DA did.length dc) L DO os W)
/-- The second loop: partitions take what came. -/
structure Lt (N : Int) (es : List Ed) (p s l q : Int) (S : St) (i : Nat) (all : List Pe) : Prop where
  dl : all.length = i
  dx : ∀ j (h : j < all.length), all[j].x = (tI N es p s l q S j).1
  ok : ∀ j, j < i → (tI N es p s l q S j).2 = 0
theorem Lt.done {N : Int} {es : List Ed} {p s l q : Int} {S : St} {i : Nat} {all : List Pe} (h : Lt N es p s l q S i all) {e : Pe} (he : e.x = (tI N es p s l q S i).1) (h0 : (tI N es p s l q S i).2 = 0) : Lt N es p s l q S (i + 1) (all ++ [e]) := by
  refine ⟨by rw [List.length_append, h.dl]; rfl, fun j hj => ?_, fun j hj => ?_⟩
  · rw [List.length_append, List.length_singleton] at hj
    by_cases hl : j < all.length
    · rw [List.getElem_append_left hl]; exact h.dx j hl
    · obtain rfl : j = all.length := by omega
      rw [List.getElem_concat_length rfl, he, h.dl]
  · by_cases hl : j < i
    · exact h.ok j hl
    · obtain rfl : j = i := by omega
      exact h0
def T1Rel (N : Int) (es : List Ed) (p s l q : Int) (S : St) (m : Nat) (wt : World) (a i : Value) (W : World) : Prop :=
  ∃ (k : Nat) (TA : Option Addr) (tc : Nat) (all : List Pe), i = .int .i64 k ∧ k ≤ m ∧ a = .slice TA all.length tc ∧ Hid (Lt N es p s l q S k all) ∧ Hid (Psq wt TA tc all W)

set_option maxRecDepth 20000 in
set_option maxHeartbeats 8000000 in
theorem seq_walk (N : Int) (A : Option Addr) (n c : Nat) (es : List Ed) (p s l q : Int) (S : St) (A1 : Option Addr) (c1 : Nat) (A2 : Option Addr) (c2 : Nat) (A3 : Option Addr) (c3 : Nat) (w : World) (hA : Lies w w.heap.size 3 A n (ec es)) (hnc : n ≤ c) (hn : n ≤ maxLen) (hS : StI w S A1 c1 A2 c2 A3 c3) :
    Calls Tryz.prog 3 #[.agg #[.int .i64 N, .slice A n c], .agg #[.int .i64 p, .int .i64 s, .int .i64 l, .int .i64 q], .agg #[.int .i64 S.step, .slice A1 S.vals.length c1, .slice A2 S.rest.length c2, .slice A3 S.inn.length c3]] w fun e w' => e = .returned (.bool true) ∧ Below w.heap.size w w' := by
  have mixed : Tryz.prog.follows .mixedOrders = true := by kernel_rfl
  obtain ⟨ip, hip, hzp, hzsp, hzbp⟩ := info_parts (show (Tryz.prog.info? 45).map (fun i => (i.zero, i.size, i.bytes)) = some (some (.agg #[.int .i64 0, .int .i64 0, .slice none 0 0, .slice none 0 0, .slice none 0 0]), 5, 88) by kernel_rfl)
  have IP := Lib.hid hip
  have ZP := Lib.hid hzp
  have SP := Lib.hid hzsp
  have BP := Lib.hid hzbp
  obtain ⟨il, hil, hzl, hzsl, hzbl⟩ := info_parts (show (Tryz.prog.info? 29).map (fun i => (i.zero, i.size, i.bytes)) = some (some (.slice none 0 0), 1, 24) by kernel_rfl)
  have IL := Lib.hid hil
  have ZL := Lib.hid hzl
  have SL := Lib.hid hzsl
  have BL := Lib.hid hzbl
  clear hip hzp hzsp hzbp hil hzl hzsl hzbl
  obtain ⟨w3, hw3⟩ : ∃ w3, w3 = ((w.alloc (.cells #[.int .i64 N, .slice A n c] 24)).alloc (.cells #[.int .i64 p, .int .i64 s, .int .i64 l, .int .i64 q] 26)).alloc (.cells #[.int .i64 S.step, .slice A1 S.vals.length c1, .slice A2 S.rest.length c2, .slice A3 S.inn.length c3] 31) := ⟨_, rfl⟩
  have HBS := Lib.hid (show Bs w N A n c p s l q S A1 c1 A2 c2 A3 c3 w3 by rw [hw3]; exact Bs.init w N A n c p s l q S A1 c1 A2 c2 A3 c3)
  have HA := Lib.hid (hA.next HBS.out.x.bl)
  have HSI := Lib.hid hS
  clear hA hS
  go_enter Tryz.func3, Tryz.ntmps3
  go_wp2_with fail
  rw [← hw3]
  clear hw3
  by_cases hg : 200 < n
  · refine (great_any N A n c _ true (by simpa using hg)).mono ?_
    rintro e w1 ⟨rfl, hb1⟩
    have HB1 := Lib.hid (HBS.out.next hb1).x.bl
    clear hb1
    go_wp2_with fail
    refine (knows_any _).mono ?_
    rintro e wk ⟨rfl, hbk⟩
    have BK := Lib.hid (HB1.out.trans (hbk.mono HB1.out.size))
    clear hbk
    go_wp2_with fail
    go_ret
    exact ⟨rfl, BK.out⟩
  · refine (great_any N A n c _ false (by simpa using hg)).mono ?_
    rintro e w1 ⟨rfl, hb1⟩
    have HB0 := Lib.hid hb1
    have hx1 := HBS.out.next hb1
    have s0 := hx1.s0
    have s1 := hx1.s1
    have s2 := hx1.s2
    have s3 := hx1.s3
    clear hb1 hx1
    go_wp2_with fail
    refine (wide_any S A1 c1 A2 c2 A3 c3 _).mono ?_
    rintro e w2 ⟨rfl, hb2⟩
    have HB2 := Lib.hid (HB0.out.trans (hb2.mono HB0.out.size))
    have HBW := Lib.hid (HBS.out.next HB2.out).x.bl
    clear hb2 s0 s1 s2 s3
    cases hw : wideB S with
    | true =>
      clear hw
      go_wp2_with fail
      refine (knows_any _).mono ?_
      rintro e wk ⟨rfl, hbk⟩
      have BK := Lib.hid (HBW.out.trans (hbk.mono HBW.out.size))
      clear hbk
      go_wp2_with fail
      go_ret
      exact ⟨rfl, BK.out⟩
    | false =>
      have HSL := Lib.hid ((HSI.out.ok hw).next HBS.out.x.bl)
      clear hw
      have HX2 := Lib.hid (HBS.out.next HB2.out)
      have HA2 := Lib.hid (HA.out.next HB2.out)
      have HS2 := Lib.hid (HSL.out.next HB2.out)
      obtain ⟨⟨z1, g0, g1, j0, j1, j2, j3, bl1⟩, z2, s0, s1, s2, s3⟩ := id HX2.out
      clear z1 bl1 z2
      go_wp2_with fail
      refine (rright_any N A n c es p s l q S A1 c1 A2 c2 A3 c3 _ HA2.out hnc hn HS2.out).mono ?_
      rintro e w4 ⟨rfl, hb4⟩
      have HX4 := Lib.hid (HX2.out.next hb4)
      have HA4 := Lib.hid (HA2.out.next hb4)
      have HS4 := Lib.hid (HS2.out.next hb4)
      have HBX := Lib.hid (HX2.out.next hb4).x.bl
      clear hb4 g0 g1 j0 j1 j2 j3 s0 s1 s2 s3 HX2 HA2 HS2 HBW HB2 HB0
      cases hr : rightB N es p s l q S with
      | false =>
        clear hr
        go_wp2_with fail
        refine (knows_any _).mono ?_
        rintro e wk ⟨rfl, hbk⟩
        have BK := Lib.hid (HBX.out.trans (hbk.mono HBX.out.size))
        clear hbk
        go_wp2_with fail
        go_ret
        exact ⟨rfl, BK.out⟩
      | true =>
        have HR := Lib.hid hr
        obtain ⟨⟨z1, g0, g1, j0, j1, j2, j3, bl1⟩, z2, s0, s1, s2, s3⟩ := id HX4.out
        clear z1 bl1 z2 hr
        by_cases h40 : S.step = 40
        · have h40' : (S.step == 40) = true := by simpa using h40
          clear h40 g0 g1 j0 j1 j2 j3 s1 s2 s3
          go_wp2_with fail
          refine (knows_any _).mono ?_
          rintro e wk ⟨rfl, hbk⟩
          have BK := Lib.hid (HBX.out.trans (hbk.mono HBX.out.size))
          clear hbk
          go_wp2_with fail
          go_ret
          exact ⟨rfl, BK.out⟩
        · have h40' : (S.step == 40) = false := by simpa using h40
          have H40 := Lib.hid h40
          clear h40
          go_wp2_with fail
          refine (fits_any p s l q S A1 c1 A2 c2 A3 c3 _ HS4.out).mono ?_
          rintro e w5 ⟨fb, rfl, hfb, hb5⟩
          have HX5 := Lib.hid (HX4.out.next hb5)
          have HA5 := Lib.hid (HA4.out.next hb5)
          have HS5 := Lib.hid (HS4.out.next hb5)
          have HB5 := Lib.hid (HX4.out.next hb5).x.bl
          clear hb5 g0 g1 j0 j1 j2 j3 s0 s1 s2 s3 HX4 HA4 HS4 HBX
          cases fb with
          | false =>
            clear hfb
            go_wp2_with fail
            refine (knows_any _).mono ?_
            rintro e wk ⟨rfl, hbk⟩
            have BK := Lib.hid (HB5.out.trans (hbk.mono HB5.out.size))
            clear hbk
            go_wp2_with fail
            go_ret
            exact ⟨rfl, BK.out⟩
          | true =>
            have HNN := Lib.hid (hfb rfl)
            have HQ6 := Lib.hid (badJ_not (jchk_zero (right_of HR.out).1).2)
            have HN24 := Lib.hid (jchk_N (right_of HR.out).1)
            obtain ⟨⟨z1, g0, g1, j0, j1, j2, j3, bl1⟩, z2, s0, s1, s2, s3⟩ := id HX5.out
            clear z1 bl1 z2 hfb
            go_wp2_with fail
            refine (step_any N A n c es p s l q S A1 c1 A2 c2 A3 c3 _ HA5.out hnc hn HS5.out).mono ?_
            obtain ⟨sr, hsr⟩ : ∃ sr, sr = stepR N es p s l q S := ⟨_, rfl⟩
            have HSR := Lib.hid hsr
            rw [← hsr]
            rintro e w6 ⟨hb6, X1, x1, X2, x2, X3, x3, rfl, hX, -, -, -⟩
            have hb7 := hb6.trans ((below_alloc w6 (.cells #[.int .i64 sr.1.step, .slice X1 sr.1.vals.length x1, .slice X2 sr.1.rest.length x2, .slice X3 sr.1.inn.length x3] 31)).mono hb6.size)
            have HX7 := Lib.hid (HX5.out.next hb7)
            have HA7 := Lib.hid (HA5.out.next hb7)
            have HS7 := Lib.hid (HS5.out.next hb7)
            have HT7 := Lib.hid (hX.next (below_alloc w6 (.cells #[.int .i64 sr.1.step, .slice X1 sr.1.vals.length x1, .slice X2 sr.1.rest.length x2, .slice X3 sr.1.inn.length x3] 31)))
            have HW7 := Lib.hid (show At4 w6.heap.size #[.int .i64 sr.1.step, .slice X1 sr.1.vals.length x1, .slice X2 sr.1.rest.length x2, .slice X3 sr.1.inn.length x3] (w6.alloc (.cells #[.int .i64 sr.1.step, .slice X1 sr.1.vals.length x1, .slice X2 sr.1.rest.length x2, .slice X3 sr.1.inn.length x3] 31)) from heap_alloc_new _ _)
            clear hsr hb6 hb7 hX g0 g1 j0 j1 j2 j3 s0 s1 s2 s3 HX5 HA5 HS5 HB5
            go_upto_region 4 with fail
            obtain ⟨bw, hbw⟩ : ∃ b, b = w6.heap.size := ⟨_, rfl⟩
            rw [← hbw] at HW7 ⊢
            generalize w6.alloc (.cells #[.int .i64 sr.1.step, .slice X1 sr.1.vals.length x1, .slice X2 sr.1.rest.length x2, .slice X3 sr.1.inn.length x3] 31) = w7 at *
            clear hbw
            obtain ⟨⟨z1, g0, g1, j0, j1, j2, j3, bl1⟩, z2, s0, s1, s2, s3⟩ := id HX7.out
            clear z1 bl1 z2
            go_wp2_with fail
            refine (split_any N A n c es p s l q S A1 c1 A2 c2 A3 c3 _ HA7.out hnc hn HS7.out).mono ?_
            rw [show splitR N es p s l q S = ((List.range q.toNat).map (cutP N.toNat q.toNat S), 0) by unfold splitR; rw [if_pos (right_of HR.out).1, if_pos HR.out]]
            rintro e wb ⟨hb8, D, d, ls, rfl, hP, hx⟩
            have HX8 := Lib.hid (HX7.out.next hb8)
            have HA8 := Lib.hid (HA7.out.next hb8)
            have HT8 := Lib.hid (HT7.out.next hb8)
            have HW8 := Lib.hid (HW7.out.next hb8)
            have HP8 := Lib.hid hP
            have HLN := Lib.hid (show ls.length = q.toNat by have := congrArg List.length hx; simpa using this)
            have HLX := Lib.hid (show ∀ k (h : k < ls.length), mkP ls[k].P ls[k].S = cutP N.toNat q.toNat S k from fun k h => by
              have h2 := congrArg (fun l => l[k]?) hx
              have hk : k < q.toNat := by rw [← HLN.out]; exact h
              have h3 : (ls.map Pe.x)[k]? = some ls[k].x := by rw [List.getElem?_map, List.getElem?_eq_getElem h]; rfl
              rw [h3] at h2
              have h4 : ((List.range q.toNat).map (cutP N.toNat q.toNat S))[k]? = some (cutP N.toNat q.toNat S k) := by rw [List.getElem?_map, List.getElem?_range hk]; rfl
              rw [h4] at h2
              exact Option.some.inj h2)
            clear hb8 hP hx g0 g1 j0 j1 j2 j3 s0 s1 s2 s3 HX7 HA7 HS7 HT7 HW7
            obtain ⟨m, hm⟩ : ∃ m : Nat, m = q.toNat := ⟨_, rfl⟩
            have HM := Lib.hid hm
            have HQM := Lib.hid (show q = (m : Int) by have := HQ6.out; omega)
            have hm6 : 1 ≤ m ∧ m ≤ 6 := by have := HQ6.out; omega
            have hlm : ls.length = m := by rw [HLN.out, hm]
            have HLM := Lib.hid hlm
            have hlq : ((ls.length : Int) != q) = false := by rw [HQM.out, hlm]; simp
            have j3 := HX8.out.x.j3
            have hmk : (Instr.makeSlice 43 (.int .i64 q) (.int .i64 q)).run Tryz.prog wb = .ok (.slice (some ⟨wb.heap.size, 0, none⟩) m m) (wb.alloc (.cells (madeCells #[.slice none 0 0] m) 46)) := by
              rw [HQM.out]; exact run_make_row' 43 46 (.slice none 0 0) 24 Tryz.underlying43 (by kernel_rfl) rfl .i64 .i64 m (by omega) (by omega) wb
            have HLW := Lib.hid (Lw.start wb m hm6.2)
            clear hm hlm
            go_wp2_with fail
            generalize wb.alloc (.cells (madeCells #[.slice none 0 0] m) 46) = w9 at *
            obtain ⟨g, hgg⟩ : ∃ g, g = wb.heap.size := ⟨_, rfl⟩
            rw [← hgg] at HLW ⊢
            clear hmk j3 hlq hgg
            go_loopw [11, 13] (fun a i W => D1Rel N es p s l q S m wb g a i W) (fun a i W => m - (intOf i).toNat)
            case atStart => exact ⟨0, none, 0, [], List.replicate m noLi, rfl, Nat.zero_le _, rfl, Lib.hid (by rw [HM.out]; exact Lm.start), HLW⟩
            case round =>
              clear HLW
              obtain ⟨wo, rfl⟩ : ∃ wo : World, wo = wr := ⟨_, rfl⟩
              obtain ⟨i, DA, dc, did, L, rfl, hi, rfl, HLm, HLw⟩ := hrel
              have HBW := Lib.hid HLw.out.mo.bl
              have HXW := Lib.hid (HX8.out.next HBW.out)
              by_cases hlt : i < m
              · have hls : i < ls.length := by have := HLM.out; omega
                have hil : (i : Int) < (ls.length : Int) := by omega
                have hl6 : ls.length ≤ 6 := by have := HLM.out; omega
                have HPW := Lib.hid (HP8.out.next HBW.out)
                obtain ⟨ad, hDD, hadb, x0, x1, x2, x3, x4⟩ := Lies.pe HPW.out.L i hls
                subst hDD
                have HXI := Lib.hid (HLX.out i hls)
                have HAT := Lib.hid (HPW.out.at i hls)
                generalize ls[i].P = KP at *
                generalize ls[i].S = KS at *
                generalize ls[i].A1 = K1 at *
                generalize ls[i].A2 = K2 at *
                generalize ls[i].A3 = K3 at *
                generalize ls[i].c1 = k1 at *
                generalize ls[i].c2 = k2 at *
                generalize ls[i].c3 = k3 at *
                have HAW := Lib.hid (HA8.out.next HBW.out)
                have CD := Lib.hid (fun (W : World) (hb : Below wo.heap.size wo W) => show Calls Tryz.prog 11 #[.agg #[.int .i64 N, .slice A n c], .agg #[.int .i64 p, .int .i64 s, .int .i64 l, .int .i64 q], .agg #[.int .i64 KP, .int .i64 KS.step, .slice K1 KS.vals.length k1, .slice K2 KS.rest.length k2, .slice K3 KS.inn.length k3]] W (DoPost (dI N es p s l q S i) W) by
                  have h := do_any N A n c es p s l q KP KS K1 k1 K2 k2 K3 k3 W (HAW.out.next hb) hnc hn (HAT.out.next hb)
                  rw [HXI.out] at h
                  exact h)
                obtain ⟨r, hr⟩ : ∃ r, r = dI N es p s l q S i := ⟨_, rfl⟩
                have HRI := Lib.hid hr
                rw [← hr] at CD
                clear hr
                have HF := Lib.hid (show ∀ W : World, Below wo.heap.size wo W → W.cell? ⟨w.heap.size, 0, none⟩ = some (.int .i64 N) ∧ W.cell? ⟨w.heap.size, 1, none⟩ = some (.slice A n c) ∧ W.cell? ⟨w.heap.size + 1, 0, none⟩ = some (.int .i64 p) ∧ W.cell? ⟨w.heap.size + 1, 1, none⟩ = some (.int .i64 s) ∧ W.cell? ⟨w.heap.size + 1, 2, none⟩ = some (.int .i64 l) ∧ W.cell? ⟨w.heap.size + 1, 3, none⟩ = some (.int .i64 q) ∧ W.cell? (ad.add (i * 5)) = some (.int .i64 KP) ∧ W.cell? ⟨(ad.add (i * 5)).block, (ad.add (i * 5)).off + 1, none⟩ = some (.int .i64 KS.step) ∧ W.cell? ⟨(ad.add (i * 5)).block, (ad.add (i * 5)).off + 2, none⟩ = some (.slice K1 KS.vals.length k1) ∧ W.cell? ⟨(ad.add (i * 5)).block, (ad.add (i * 5)).off + 3, none⟩ = some (.slice K2 KS.rest.length k2) ∧ W.cell? ⟨(ad.add (i * 5)).block, (ad.add (i * 5)).off + 4, none⟩ = some (.slice K3 KS.inn.length k3) by
                  intro W hb
                  have h := HXW.out.next hb
                  have K : ∀ (a : Addr) (v : Value), wo.cell? a = some v → W.cell? a = some v := fun a v h => (hb.cell (p := a) (World.block_lt_of_cell? wo a h)).trans h
                  exact ⟨h.x.g0, h.x.g1, h.x.j0, h.x.j1, h.x.j2, h.x.j3, K _ _ x0, K _ _ x1, K _ _ x2, K _ _ x3, K _ _ x4⟩)
                have B0 := Lib.hid (show Below wo.heap.size wo wo.drew from (Below.refl _ _).drew)
                have BZ := Lib.hid (show Below wo.heap.size wo (wo.alloc (.cells #[.int .i64 0, .int .i64 0, .slice none 0 0, .slice none 0 0, .slice none 0 0] 45)).drew from ((Below.refl _ _).alloc (Nat.le_refl _) _).drew)
                have ZB := Lib.hid (show (wo.alloc (.cells #[.int .i64 0, .int .i64 0, .slice none 0 0, .slice none 0 0, .slice none 0 0] 45)).drew.heap[wo.heap.size]? = some (.cells #[.int .i64 0, .int .i64 0, .slice none 0 0, .slice none 0 0, .slice none 0 0] 45) from heap_alloc_new _ _)
                have HB5 := Lib.hid (show ∀ (W : World) (b : Nat) (u0 u1 u2 u3 u4 : Value), Below wo.heap.size wo W → wo.heap.size ≤ b → Below wo.heap.size wo (((((W.setCell ⟨b, 0, none⟩ u0).setCell ⟨b, 1, none⟩ u1).setCell ⟨b, 2, none⟩ u2).setCell ⟨b, 3, none⟩ u3).setCell ⟨b, 4, none⟩ u4) from fun W b u0 u1 u2 u3 u4 h hle => ((((h.setCell (p := ⟨b, 0, none⟩) hle _).setCell (p := ⟨b, 1, none⟩) hle _).setCell (p := ⟨b, 2, none⟩) hle _).setCell (p := ⟨b, 3, none⟩) hle _).setCell (p := ⟨b, 4, none⟩) hle _)
                go_upto_region 12 with fail
                have q0 := HF.out _ B0.out
                clear x0 x1 x2 x3 x4 hadb
                go_cut [14, 15, 16] (fun s14 s15 s16 W => DoCut r wo s14 s15 s16 W)
                case first =>
                  go_region_held3 (fun w' => w'.cell? ⟨w.heap.size, 0, none⟩ = some (.int .i64 N) ∧ w'.cell? ⟨w.heap.size, 1, none⟩ = some (.slice A n c) ∧ w'.cell? ⟨w.heap.size + 1, 0, none⟩ = some (.int .i64 p) ∧ w'.cell? ⟨w.heap.size + 1, 1, none⟩ = some (.int .i64 s) ∧ w'.cell? ⟨w.heap.size + 1, 2, none⟩ = some (.int .i64 l) ∧ w'.cell? ⟨w.heap.size + 1, 3, none⟩ = some (.int .i64 q) ∧ w'.cell? (ad.add (i * 5)) = some (.int .i64 KP) ∧ w'.cell? ⟨(ad.add (i * 5)).block, (ad.add (i * 5)).off + 1, none⟩ = some (.int .i64 KS.step) ∧ w'.cell? ⟨(ad.add (i * 5)).block, (ad.add (i * 5)).off + 2, none⟩ = some (.slice K1 KS.vals.length k1) ∧ w'.cell? ⟨(ad.add (i * 5)).block, (ad.add (i * 5)).off + 3, none⟩ = some (.slice K2 KS.rest.length k2) ∧ w'.cell? ⟨(ad.add (i * 5)).block, (ad.add (i * 5)).off + 4, none⟩ = some (.slice K3 KS.inn.length k3))
                    (first | with_reducible exact q1 | with_reducible exact q0 | with_reducible exact HF.out _ BZ.out | with_reducible exact HF.out _ (B7.out.alloc B7.out.size _) | with_reducible exact HF.out _ (HB5.out _ _ _ _ _ _ _ B7.out (Nat.le_refl _)))
                    (first | ((go_at_call 11); (with_reducible refine (CD.out _ BZ.out).mono ?_); rintro e w7 ⟨hb7, Q, T, Z1, z1, Z2, z2, Z3, z3, DO, os, rfl, hx, hm, hZ, hDO, t1, t2, t3, t4, t5⟩; have B7 := Lib.hid (BZ.out.trans (hb7.mono BZ.out.size)); have HZ := Lib.hid hZ; have HDO := Lib.hid hDO; have T1 := Lib.hid t1; have T2 := Lib.hid t2; have T3 := Lib.hid t3; have T4 := Lib.hid t4; have T5 := Lib.hid t5; have HXM := Lib.hid hx; have HMM := Lib.hid hm; have q1 := HF.out _ B7.out; have z6 := (hb7.block wo.heap.size (lt_of_block ZB.out)).trans ZB.out; have r0 := cell_of_row w7 _ 0 _ 45 (0, 0) z6; have f0 := unfrozen z6 0; have r1 := cell_of_row w7 _ 1 _ 45 (0, 0) z6; have f1 := unfrozen z6 1; have r2 := cell_of_row w7 _ 2 _ 45 (0, 0) z6; have f2 := unfrozen z6 2; have r3 := cell_of_row w7 _ 3 _ 45 (0, 0) z6; have f3 := unfrozen z6 3; have r4 := cell_of_row w7 _ 4 _ 45 (0, 0) z6; have f4 := unfrozen z6 4; have Z6 := Lib.hid z6; clear hb7 hZ hDO hx hm t1 t2 t3 t4 t5 z6 q0) | ((go_at_call 11); (with_reducible refine (CD.out _ B0.out).mono ?_); rintro e w7 ⟨hb7, Q, T, Z1, z1, Z2, z2, Z3, z3, DO, os, rfl, hx, hm, hZ, hDO, t1, t2, t3, t4, t5⟩; have B7 := Lib.hid (B0.out.trans (hb7.mono B0.out.size)); have HZ := Lib.hid hZ; have HDO := Lib.hid hDO; have T1 := Lib.hid t1; have T2 := Lib.hid t2; have T3 := Lib.hid t3; have T4 := Lib.hid t4; have T5 := Lib.hid t5; have HXM := Lib.hid hx; have HMM := Lib.hid hm; have q1 := HF.out _ B7.out; clear hb7 hZ hDO hx hm t1 t2 t3 t4 t5 q0) | fail)
                  all_goals
                    go_wp2_with fail
                    go_meet
                    first
                      | exact ⟨_, Q, T, Z1, z1, Z2, z2, Z3, z3, DO, os, rfl, rfl, rfl, B7.out.alloc B7.out.size _, heap_alloc_new _ _, HXM.out, HMM.out, HZ.out.next (below_alloc _ _), HDO.out.next (below_alloc _ _), T1.out, T2.out, T3.out, T4.out, T5.out⟩
                      | exact ⟨_, Q, T, Z1, z1, Z2, z2, Z3, z3, DO, os, rfl, rfl, rfl, HB5.out _ _ _ _ _ _ _ B7.out (Nat.le_refl _), set_heap (set_heap (set_heap (set_heap (set_heap Z6.out _) _) _) _) _, HXM.out, HMM.out, HZ.out.five T1.out T2.out T3.out (lt_of_block ZB.out) _ _ _ _ _, HDO.out.five T4.out T5.out (lt_of_block ZB.out) _ _ _ _ _, T1.out.low BZ.out.size, T2.out.low BZ.out.size, T3.out.low BZ.out.size, T4.out.low BZ.out.size, fun e he => (T5.out e he).low BZ.out.size⟩
                case rest =>
                  obtain ⟨bz, Q, T, Z1, z1, Z2, z2, Z3, z3, DO, os, rfl, rfl, rfl, hb, hz, hx, hm, hZ, hDO, t1, t2, t3, t4, t5⟩ := hcut
                  have HLw1 := Lib.hid (HLw.out.next hb)
                  have HXC := Lib.hid (HXW.out.next hb)
                  have HBX := Lib.hid (HXW.out.next hb).x.bl
                  have HFP := Lib.hid (FxP.new (e := ⟨Q, T, Z1, z1, Z2, z2, Z3, z3⟩) HLw.out.mo hZ t1 t2 t3)
                  have HLO := Lib.hid (show Lo g (.slice DA did.length dc) L DO os wc from ⟨Fx.new HLw.out.mo hDO.L t4, fun e he => Fx.new HLw.out.mo (hDO.el e he) (t5 e he)⟩)
                  have HAZ := Lib.hid hz
                  have HXM := Lib.hid hx
                  have HMM := Lib.hid hm
                  clear hb hz hx hm hZ hDO t1 t2 t3 t4 t5 q0 HF B0 BZ ZB HB5 CD HAW HAT HPW
                  by_cases he : r.2.2 = 0
                  · have h0 : (doR N es p s l q (mkP KP KS)).2.2 = 0 := by
                      rw [HXI.out]
                      have := HRI.out
                      unfold dI at this
                      rw [← this]; exact he
                    have hr0 : (dI N es p s l q S i).2.2 = 0 := by rw [← HRI.out]; exact he
                    have hg2 := (doR_good h0).2.2.2
                    have hol : os.length = m := by
                      have h1 := congrArg List.length HMM.out
                      rw [List.length_map] at h1
                      rw [h1, HRI.out]
                      unfold dI
                      rw [← HXI.out, hg2, HM.out]
                      simp
                    have HOL := Lib.hid hol
                    have HOM := Lib.hid (show ∀ k (h : k < os.length), os[k].ms = (dI N es p s l q S i).2.1.getD k [] from fun k h => by
                      have h2 := HMM.out
                      rw [HRI.out] at h2
                      rw [← h2]
                      simp [List.getD_eq_getElem?_getD, List.getElem?_map, List.getElem?_eq_getElem h])
                    have hoq : ((os.length : Int) != q) = false := by rw [HQM.out, hol]; simp
                    obtain ⟨e, hee⟩ : ∃ e : Pe, e = ⟨Q, T, Z1, z1, Z2, z2, Z3, z3⟩ := ⟨_, rfl⟩
                    have HEE := Lib.hid hee
                    have HLk0 := Lib.hid (HLm.out.done (e := e) (by rw [hee]; show mkP Q T = _; rw [← HRI.out]; exact HXM.out) hr0)
                    have hdl : did.length = i := HLm.out.dl
                    have HO1 := Lib.hid (own_next HLw1.out.mo.did (below_alloc wc (.cells #[.int .i64 Q, .int .i64 T.step, .slice Z1 T.vals.length z1, .slice Z2 T.rest.length z2, .slice Z3 T.inn.length z3] 45)))
                    have HL1 := Lib.hid (show Lies (wc.alloc (.cells #[.int .i64 Q, .int .i64 T.step, .slice Z1 T.vals.length z1, .slice Z2 T.rest.length z2, .slice Z3 T.inn.length z3] 45)) (wc.heap.size + 1) 5 (some ⟨wc.heap.size, 0, none⟩) 1 (pc [e]) by rw [hee]; exact lies_cells wc (pc [⟨Q, T, Z1, z1, Z2, z2, Z3, z3⟩]) 45 1 5 rfl)
                    have HLw2 := Lib.hid (HLw1.out.next (below_alloc wc (.cells #[.int .i64 Q, .int .i64 T.step, .slice Z1 T.vals.length z1, .slice Z2 T.rest.length z2, .slice Z3 T.inn.length z3] 45)))
                    have HFP2 := Lib.hid (show FxP g (.slice DA did.length dc) L (wc.alloc (.cells #[.int .i64 Q, .int .i64 T.step, .slice Z1 T.vals.length z1, .slice Z2 T.rest.length z2, .slice Z3 T.inn.length z3] 45)) e by rw [hee]; exact HFP.out.next (below_alloc wc _))
                    have HLO2 := Lib.hid (HLO.out.next (below_alloc wc (.cells #[.int .i64 Q, .int .i64 T.step, .slice Z1 T.vals.length z1, .slice Z2 T.rest.length z2, .slice Z3 T.inn.length z3] 45)))
                    have j3 := HXC.out.x.j3
                    have y0 := cell_of_row _ bz 0 _ 45 (0, 0) HAZ.out
                    have y1 := cell_of_row _ bz 1 _ 45 (0, 0) HAZ.out
                    have y2 := cell_of_row _ bz 2 _ 45 (0, 0) HAZ.out
                    have y3 := cell_of_row _ bz 3 _ 45 (0, 0) HAZ.out
                    have y4 := cell_of_row _ bz 4 _ 45 (0, 0) HAZ.out
                    have HDL := Lib.hid hdl
                    rw [he]
                    clear he h0 hr0 hg2 hol hee hdl HXI HRI HXM HMM HFP HLO HLw1 HXW
                    go_wp2_with (at_builtin; go_must (refine wpList_app3 _ rfl (.tmp 108) (.tmp 110) 40 rfl wb.heap.size 45 ip _ 5 88 Tryz.underlying40 IP.out ZP.out SP.out BP.out rfl (by decide) DA did.length dc (pc did) rfl HO1.out (wc.heap.size + 1) (some ⟨wc.heap.size, 0, none⟩) 1 1 (pc [e]) rfl HL1.out (pc_one' _) (by have := HDL.out; unfold maxLen; omega) (by have := HDL.out; omega) HLw2.out.mo.bl.size ?_))
                    intro A5 c5 w5 ho5 hb5 hg5 hw5
                    obtain ⟨did2, hd2⟩ : ∃ did2, did2 = did ++ [e] := ⟨_, rfl⟩
                    have hdl2 : did2.length = did.length + 1 := by rw [hd2]; simp
                    have HLw3 := Lib.hid (show Lw wb g A5 c5 did2 L w5 by rw [hd2]; exact HLw2.out.app HFP2.out ho5 hb5 hg5 (by rw [World.size_alloc]; exact hw5))
                    have HLO3 := Lib.hid (show Lo g (.slice A5 did2.length c5) L DO os w5 by rw [hdl2]; exact HLO2.out.app hg5 (by rw [World.size_alloc]; exact hw5))
                    have HLk := Lib.hid (show Lk N es p s l q S i 0 did2 L by rw [hd2]; exact HLk0.out)
                    have HDL2 := Lib.hid hdl2
                    clear ho5 hb5 hg5 hw5 hd2 hdl2 HLk0 HO1 HL1 HLw2 HFP2 HLO2 HLw HLm HEE HAZ HXC HBX j3 y0 y1 y2 y3 y4
                    have HBX3 := Lib.hid (HX8.out.next HLw3.out.mo.bl)
                    go_wp2_with fail
                    go_loopw [17] (fun i' W => D2Rel N es p s l q S m i wb g A5 c5 did2 DO os i' W) (fun i' W => m - (intOf i').toNat)
                    case atStart => exact ⟨0, L, rfl, Nat.zero_le _, HLk, HLw3, HLO3⟩
                    case round =>
                      clear HLk HLw3 HLO3 HBX3
                      obtain ⟨k, L, rfl, hk, HLk, HLw, HLo⟩ := hrel
                      have HXR := Lib.hid (HX8.out.next HLw.out.mo.bl)
                      have j3 := HXR.out.x.j3
                      by_cases hkm : k < m
                      · have hkq : (k : Int) < q := by have := HQM.out; omega
                        have hkM : (k : Int) < (m : Int) := by omega
                        have hkL : k < L.length := by rw [HLk.out.ll, ← HM.out]; exact hkm
                        have hko : k < os.length := by rw [HOL.out]; exact hkm
                        have hkO : (k : Int) < (os.length : Int) := by omega
                        have hosl : os.length ≤ 6 := by rw [HOL.out]; exact hm6.2
                        obtain ⟨ad2, hDO, had2, u2⟩ := HLo.out.row.1.2 k _ (lcl_at os k hko)
                        subst hDO
                        have HXK := Lib.hid (HOM.out k hko)
                        have HFX := Lib.hid (HLo.out.el os[k] (List.getElem_mem hko))
                        generalize os[k] = x at *
                        have HR1 := Lib.hid (HLk.out.row hkL)
                        obtain ⟨W8, hW8⟩ : ∃ W8, W8 = (wr.alloc (.cells #[.slice x.A x.ms.length x.c] 29)).drew := ⟨_, rfl⟩
                        have HB8 := Lib.hid (show Below wr.heap.size wr W8 by rw [hW8]; exact (below_alloc _ _).drew)
                        have HLw8 := Lib.hid (HLw.out.next HB8.out)
                        have HLo8 := Lib.hid (HLo.out.next HB8.out)
                        have HFX8 := Lib.hid (Fx.next HFX.out HB8.out)
                        obtain ⟨RA, hRA⟩ : ∃ RA, RA = L[k].A := ⟨_, rfl⟩
                        obtain ⟨Rn, hRn⟩ : ∃ Rn, Rn = L[k].ls.length := ⟨_, rfl⟩
                        obtain ⟨Rc, hRc⟩ : ∃ Rc, Rc = L[k].c := ⟨_, rfl⟩
                        have hLv : L[k].v = .slice RA Rn Rc := by rw [hRA, hRn, hRc]; rfl
                        have u1 : wr.cell? ⟨g, k, none⟩ = some (.slice RA Rn Rc) := by rw [hRA, hRn, hRc]; exact HLw.out.cell k hkL
                        have u3 : (wr.alloc (.cells #[.slice x.A x.ms.length x.c] 29)).cell? ⟨g, k, none⟩ = some (.slice RA Rn Rc) := (World.cell?_alloc_lt wr _ _ HLw.out.mo.glt).trans u1
                        have u4 : (wr.alloc (.cells #[.slice x.A x.ms.length x.c] 29)).cell? (ad2.add k) = some (.slice x.A x.ms.length x.c) := (World.cell?_alloc_lt wr _ _ (by rw [block_add]; exact had2)).trans u2
                        have HR8 := Lib.hid (show W8.ownsRow wb.heap.size 29 1 (.slice RA Rn Rc) Rn (lcl L[k].ls) by rw [hRA, hRn, hRc]; exact HLw8.out.row k hkL)
                        have HL7 := Lib.hid (show Lies W8 (wr.heap.size + 1) 1 (some ⟨wr.heap.size, 0, none⟩) 1 (lcl [x]) by rw [hW8]; exact lies_cells wr (lcl [x]) 29 1 1 rfl)
                        have hRn6 : Rn ≤ 6 := by rw [hRn, HR1.out]; omega
                        have PUT := Lib.hid (show ∀ (A' : Option Addr) (c' : Nat) (w' : World), w'.ownsRow wb.heap.size 29 1 (.slice A' (Rn + 1) c') (Rn + 1) (lcl L[k].ls ++ lcl [x]) → Below wb.heap.size W8 w' → W8.grownBy w' (Value.slice RA Rn Rc).ownBlock → ((Value.slice A' (Rn + 1) c').ownBlock = (Value.slice RA Rn Rc).ownBlock ∨ (Value.slice A' (Rn + 1) c').ownBlock = some W8.heap.size) →
                            (Lw wb g A5 c5 did2 (L.set k ⟨A', c', L[k].ls ++ [x]⟩) (w'.setCell ⟨g, k, none⟩ (.slice A' (Rn + 1) c')) ∧ w'.cell? ⟨g, k, none⟩ = some (.slice RA Rn Rc) ∧ w'.frozen? ⟨g, k, none⟩ = false) ∧ Lo g (.slice A5 did2.length c5) (L.set k ⟨A', c', L[k].ls ++ [x]⟩) (some ad2) os (w'.setCell ⟨g, k, none⟩ (.slice A' (Rn + 1) c')) from fun A' c' w' ho hb hg hw => by
                          rw [← hLv] at hg hw
                          have h1 := HLw8.out.put k hkL HFX8.out (n := Rn + 1) (by rw [hRn]) ho hb hg hw
                          rw [hLv] at h1
                          exact ⟨h1, HLo8.out.put hkL (by rw [hRn]) hg hw⟩)
                        have HLKP := Lib.hid (fun (A' : Option Addr) (c' : Nat) => HLk.out.put hkL HXK.out A' c')
                        generalize L[k].ls = Rls at *
                        have HBB := Lib.hid HLw8.out.mo.bl.size
                        rw [hW8] at HR8 HL7 PUT HBB
                        clear hW8 HB8 HLw8 HLo8 HFX8 hRA hRn hRc hLv HFX HXK HR1 had2
                        go_wp2_with fail
                        go_region_law (first | (refine step_own3 rfl _ _ 46 rfl wb.heap.size 29 il _ 1 24 Tryz.underlying46 IL.out ZL.out SL.out BL.out rfl (by decide) RA Rn Rc (lcl Rls) (by simp [Act.eval]) HR8.out (wr.heap.size + 1) (some ⟨wr.heap.size, 0, none⟩) 1 1 (lcl [x]) (by simp [Act.eval]) HL7.out (lcl_one _) (by unfold maxLen; omega) (by omega) HBB.out ?_; intro A9 c9 w9 ho9 hb9 hg9 hw9; obtain ⟨⟨hp9, t9, f9⟩, ho9'⟩ := PUT.out A9 c9 w9 ho9 hb9 hg9 hw9; have HP9 := Lib.hid hp9; have HO9 := Lib.hid ho9'; clear hp9 ho9') | fail)
                        all_goals
                          clear u1 u2 u3 u4 ho9 hb9 hg9 hw9 t9 f9 HR8 HL7 PUT
                          go_wp2_with fail
                          go_roundw
                          case rel => exact ⟨k + 1, _, by go_num, by omega, Lib.hid (HLKP.out A9 c9), HP9, HO9⟩
                          case measure => simp [intOf]; omega
                      · have hk' : k = m := by omega
                        subst hk'
                        have hkq : ¬ (k : Int) < q := by have := HQM.out; omega
                        go_wp2_with fail
                        go_roundw
                        case rel => exact ⟨i + 1, A5, c5, did2, L, by go_num, by omega, by rw [HDL2.out], Lib.hid (HLk.out.all (by rw [HLk.out.ll, ← HM.out]; exact Nat.le_refl _)), HLw⟩
                        case measure => simp [intOf]; omega
                  · have hbad := do_bad HR.out H40.out HSL.out.ok HNN.out (k := i) (by rw [← HM.out]; exact hlt) (by have := HRI.out; unfold dI at this; rw [← this]; exact he)
                    have h8 : r.2.2 = 8 := by rw [HRI.out]; exact hbad.1
                    have s8 : sr.2 = 8 := by rw [HSR.out]; exact hbad.2
                    rw [h8, s8]
                    clear he hbad h8 s8
                    go_wp2_with fail
                    refine (knows_any _).mono ?_
                    rintro e wk ⟨rfl, hbk⟩
                    have BK := Lib.hid (HBX.out.trans (hbk.mono HBX.out.size))
                    clear hbk
                    go_wp2_with fail
                    go_ret
                    exact ⟨rfl, BK.out⟩
              · have hi' : i = m := by omega
                have HDID := Lib.hid (do_all HR.out H40.out (fun k hk => HLm.out.ok k (by rw [hi', HM.out]; exact hk)))
                have HLq := Lib.hid (show Lm N es p s l q S q.toNat did L by rw [← HM.out, ← hi']; exact HLm.out)
                have hil : ¬ ((i : Int) < (ls.length : Int)) := by have := HLM.out; omega
                have hdm : did.length = m := by rw [HLm.out.dl, hi']
                have HDM := Lib.hid hdm
                have HLL := Lib.hid (show L.length = m by rw [HLq.out.ll, HM.out])
                obtain ⟨wt, rfl⟩ : ∃ wt : World, wt = wo := ⟨_, rfl⟩
                clear hlt hi' hdm HXW HBW HLm
                go_wp2_with fail
                go_loopw [18, 19] (fun a i W => T1Rel N es p s l q S m wt a i W) (fun a i W => m - (intOf i).toNat)
                case atStart => exact ⟨0, none, 0, [], rfl, Nat.zero_le _, rfl, Lib.hid ⟨rfl, fun j h => absurd h (Nat.not_lt_zero _), fun j h => absurd h (Nat.not_lt_zero _)⟩, Lib.hid (Psq.no wt)⟩
                case round =>
                  obtain ⟨wo, rfl⟩ : ∃ wo : World, wo = wr := ⟨_, rfl⟩
                  clear hil hi
                  obtain ⟨i, TA, tc, all, rfl, hi, rfl, HLt, HPs⟩ := hrel
                  have HBW := Lib.hid (show Below wb.heap.size wb wo from HLw.out.mo.bl.trans (HPs.out.bl.mono HLw.out.mo.bl.size))
                  have HXW := Lib.hid (HX8.out.next HBW.out)
                  have HLW := Lib.hid (HLw.out.next HPs.out.bl)
                  by_cases hlt : i < m
                  · have hdi : i < did.length := by rw [HDM.out]; exact hlt
                    have hil : (i : Int) < (did.length : Int) := by omega
                    have hd6 : did.length ≤ 6 := by rw [HDM.out]; exact hm6.2
                    have him : (i : Int) < (m : Int) := by omega
                    have HPW := Lib.hid HLW.out.pls
                    obtain ⟨ad, hDD, hadb, x0, x1, x2, x3, x4⟩ := Lies.pe HPW.out.L i hdi
                    subst hDD
                    have HXI := Lib.hid (show mkP did[i].P did[i].S = doX N es p s l q (cutP N.toNat q.toNat S i) from HLq.out.did_x HDID.out hdi)
                    have HAT := Lib.hid (HPW.out.at i hdi)
                    generalize did[i].P = KP at *
                    generalize did[i].S = KS at *
                    generalize did[i].A1 = K1 at *
                    generalize did[i].A2 = K2 at *
                    generalize did[i].A3 = K3 at *
                    generalize did[i].c1 = k1 at *
                    generalize did[i].c2 = k2 at *
                    generalize did[i].c3 = k3 at *
                    have hiL : i < L.length := by rw [HLL.out]; exact hlt
                    have HLS := Lib.hid (HLW.out.lls i hiL)
                    have u1 := HLW.out.cell i hiL
                    have HIN := Lib.hid (HLq.out.ins HDID.out hiL)
                    have HRL := Lib.hid (HLq.out.row hiL)
                    have HIF := Lib.hid (insK_facts HR.out HSL.out.ok HNN.out i)
                    generalize L[i].A = RA at *
                    generalize L[i].c = Rc at *
                    generalize L[i].ls = Rls at *
                    have HAW := Lib.hid (HA8.out.next HBW.out)
                    have CD := Lib.hid (fun (W : World) (hb : Below wo.heap.size wo W) => show Calls Tryz.prog 12 #[.agg #[.int .i64 N, .slice A n c], .agg #[.int .i64 p, .int .i64 s, .int .i64 l, .int .i64 q], .agg #[.int .i64 KP, .int .i64 KS.step, .slice K1 KS.vals.length k1, .slice K2 KS.rest.length k2, .slice K3 KS.inn.length k3], .slice RA Rls.length Rc] W (TkPost (tI N es p s l q S i) W) by
                      have h := take_any N A n c es p s l q KP KS K1 k1 K2 k2 K3 k3 RA Rc Rls W (HAW.out.next hb) hnc hn (HAT.out.next hb) (HLS.out.next hb) (by have := HRL.out; have := HQ6.out; omega) (by rw [HIN.out]; exact HIF.out.1) (by rw [HIN.out]; exact HIF.out.2)
                      rw [HXI.out, HIN.out] at h
                      exact h)
                    obtain ⟨r, hr⟩ : ∃ r, r = tI N es p s l q S i := ⟨_, rfl⟩
                    have HRI := Lib.hid hr
                    rw [← hr] at CD
                    clear hr
                    have HF := Lib.hid (show ∀ W : World, Below wo.heap.size wo W → W.cell? ⟨w.heap.size, 0, none⟩ = some (.int .i64 N) ∧ W.cell? ⟨w.heap.size, 1, none⟩ = some (.slice A n c) ∧ W.cell? ⟨w.heap.size + 1, 0, none⟩ = some (.int .i64 p) ∧ W.cell? ⟨w.heap.size + 1, 1, none⟩ = some (.int .i64 s) ∧ W.cell? ⟨w.heap.size + 1, 2, none⟩ = some (.int .i64 l) ∧ W.cell? ⟨w.heap.size + 1, 3, none⟩ = some (.int .i64 q) ∧ W.cell? (ad.add (i * 5)) = some (.int .i64 KP) ∧ W.cell? ⟨(ad.add (i * 5)).block, (ad.add (i * 5)).off + 1, none⟩ = some (.int .i64 KS.step) ∧ W.cell? ⟨(ad.add (i * 5)).block, (ad.add (i * 5)).off + 2, none⟩ = some (.slice K1 KS.vals.length k1) ∧ W.cell? ⟨(ad.add (i * 5)).block, (ad.add (i * 5)).off + 3, none⟩ = some (.slice K2 KS.rest.length k2) ∧ W.cell? ⟨(ad.add (i * 5)).block, (ad.add (i * 5)).off + 4, none⟩ = some (.slice K3 KS.inn.length k3) ∧ W.cell? ⟨g, i, none⟩ = some (.slice RA Rls.length Rc) by
                      intro W hb
                      have h := HXW.out.next hb
                      have K : ∀ (a : Addr) (v : Value), wo.cell? a = some v → W.cell? a = some v := fun a v h => (hb.cell (p := a) (World.block_lt_of_cell? wo a h)).trans h
                      exact ⟨h.x.g0, h.x.g1, h.x.j0, h.x.j1, h.x.j2, h.x.j3, K _ _ x0, K _ _ x1, K _ _ x2, K _ _ x3, K _ _ x4, K _ _ u1⟩)
                    have B0 := Lib.hid (show Below wo.heap.size wo wo.drew from (Below.refl _ _).drew)
                    have BZ := Lib.hid (show Below wo.heap.size wo (wo.alloc (.cells #[.int .i64 0, .int .i64 0, .slice none 0 0, .slice none 0 0, .slice none 0 0] 45)).drew from ((Below.refl _ _).alloc (Nat.le_refl _) _).drew)
                    have ZB := Lib.hid (show (wo.alloc (.cells #[.int .i64 0, .int .i64 0, .slice none 0 0, .slice none 0 0, .slice none 0 0] 45)).drew.heap[wo.heap.size]? = some (.cells #[.int .i64 0, .int .i64 0, .slice none 0 0, .slice none 0 0, .slice none 0 0] 45) from heap_alloc_new _ _)
                    have HB5 := Lib.hid (show ∀ (W : World) (b : Nat) (u0 u1 u2 u3 u4 : Value), Below wo.heap.size wo W → wo.heap.size ≤ b → Below wo.heap.size wo (((((W.setCell ⟨b, 0, none⟩ u0).setCell ⟨b, 1, none⟩ u1).setCell ⟨b, 2, none⟩ u2).setCell ⟨b, 3, none⟩ u3).setCell ⟨b, 4, none⟩ u4) from fun W b u0 u1 u2 u3 u4 h hle => ((((h.setCell (p := ⟨b, 0, none⟩) hle _).setCell (p := ⟨b, 1, none⟩) hle _).setCell (p := ⟨b, 2, none⟩) hle _).setCell (p := ⟨b, 3, none⟩) hle _).setCell (p := ⟨b, 4, none⟩) hle _)
                    go_upto_region 26 with fail
                    have q0 := HF.out _ B0.out
                    clear x0 x1 x2 x3 x4 hadb u1
                    go_cut [20, 21] (fun s20 s21 W => TkCut r wo s20 s21 W)
                    case first =>
                      go_region_held3 (fun w' => w'.cell? ⟨w.heap.size, 0, none⟩ = some (.int .i64 N) ∧ w'.cell? ⟨w.heap.size, 1, none⟩ = some (.slice A n c) ∧ w'.cell? ⟨w.heap.size + 1, 0, none⟩ = some (.int .i64 p) ∧ w'.cell? ⟨w.heap.size + 1, 1, none⟩ = some (.int .i64 s) ∧ w'.cell? ⟨w.heap.size + 1, 2, none⟩ = some (.int .i64 l) ∧ w'.cell? ⟨w.heap.size + 1, 3, none⟩ = some (.int .i64 q) ∧ w'.cell? (ad.add (i * 5)) = some (.int .i64 KP) ∧ w'.cell? ⟨(ad.add (i * 5)).block, (ad.add (i * 5)).off + 1, none⟩ = some (.int .i64 KS.step) ∧ w'.cell? ⟨(ad.add (i * 5)).block, (ad.add (i * 5)).off + 2, none⟩ = some (.slice K1 KS.vals.length k1) ∧ w'.cell? ⟨(ad.add (i * 5)).block, (ad.add (i * 5)).off + 3, none⟩ = some (.slice K2 KS.rest.length k2) ∧ w'.cell? ⟨(ad.add (i * 5)).block, (ad.add (i * 5)).off + 4, none⟩ = some (.slice K3 KS.inn.length k3) ∧ w'.cell? ⟨g, i, none⟩ = some (.slice RA Rls.length Rc))
                        (first | with_reducible exact q1 | with_reducible exact q0 | with_reducible exact HF.out _ BZ.out | with_reducible exact HF.out _ (B7.out.alloc B7.out.size _) | with_reducible exact HF.out _ (HB5.out _ _ _ _ _ _ _ B7.out (Nat.le_refl _)))
                        (first | ((go_at_call 12); (with_reducible refine (CD.out _ BZ.out).mono ?_); rintro e w7 ⟨hb7, Q, T, Z1, z1, Z2, z2, Z3, z3, rfl, hx, hZ, t1, t2, t3⟩; have B7 := Lib.hid (BZ.out.trans (hb7.mono BZ.out.size)); have HZ := Lib.hid hZ; have T1 := Lib.hid t1; have T2 := Lib.hid t2; have T3 := Lib.hid t3; have HXM := Lib.hid hx; have q1 := HF.out _ B7.out; have z6 := (hb7.block wo.heap.size (lt_of_block ZB.out)).trans ZB.out; have r0 := cell_of_row w7 _ 0 _ 45 (0, 0) z6; have f0 := unfrozen z6 0; have r1 := cell_of_row w7 _ 1 _ 45 (0, 0) z6; have f1 := unfrozen z6 1; have r2 := cell_of_row w7 _ 2 _ 45 (0, 0) z6; have f2 := unfrozen z6 2; have r3 := cell_of_row w7 _ 3 _ 45 (0, 0) z6; have f3 := unfrozen z6 3; have r4 := cell_of_row w7 _ 4 _ 45 (0, 0) z6; have f4 := unfrozen z6 4; have Z6 := Lib.hid z6; clear hb7 hZ hx t1 t2 t3 z6 q0) | ((go_at_call 12); (with_reducible refine (CD.out _ B0.out).mono ?_); rintro e w7 ⟨hb7, Q, T, Z1, z1, Z2, z2, Z3, z3, rfl, hx, hZ, t1, t2, t3⟩; have B7 := Lib.hid (B0.out.trans (hb7.mono B0.out.size)); have HZ := Lib.hid hZ; have T1 := Lib.hid t1; have T2 := Lib.hid t2; have T3 := Lib.hid t3; have HXM := Lib.hid hx; have q1 := HF.out _ B7.out; clear hb7 hZ hx t1 t2 t3 q0) | fail)
                      all_goals
                        go_wp2_with fail
                        go_meet
                        first
                          | exact ⟨_, Q, T, Z1, z1, Z2, z2, Z3, z3, rfl, rfl, B7.out.alloc B7.out.size _, heap_alloc_new _ _, HXM.out, HZ.out.next (below_alloc _ _), T1.out, T2.out, T3.out⟩
                          | exact ⟨_, Q, T, Z1, z1, Z2, z2, Z3, z3, rfl, rfl, HB5.out _ _ _ _ _ _ _ B7.out (Nat.le_refl _), set_heap (set_heap (set_heap (set_heap (set_heap Z6.out _) _) _) _) _, HXM.out, HZ.out.five T1.out T2.out T3.out (lt_of_block ZB.out) _ _ _ _ _, T1.out.low BZ.out.size, T2.out.low BZ.out.size, T3.out.low BZ.out.size⟩
                    case rest =>
                      obtain ⟨bz, Q, T, Z1, z1, Z2, z2, Z3, z3, rfl, rfl, hb, hz, hx, hZ, t1, t2, t3⟩ := hcut
                      have HPs1 := Lib.hid (HPs.out.next hb)
                      have HBX := Lib.hid (HXW.out.next hb).x.bl
                      have HNB := Lib.hid (fun (b : Nat) (hb : (Value.slice TA all.length tc).ownBlock = some b) => show Nbl b Z1 (vc T.vals) ∧ Nbl b Z2 (rc T.rest) ∧ Nbl b Z3 (mc T.inn) from ⟨.inr (t1.nb (HPs.out.own.lt b hb).2), .inr (t2.nb (HPs.out.own.lt b hb).2), .inr (t3.nb (HPs.out.own.lt b hb).2)⟩)
                      have HZS := Lib.hid hZ
                      have HAZ := Lib.hid hz
                      have HXM := Lib.hid hx
                      clear hb hz hx hZ t1 t2 t3 q0 HF B0 BZ ZB HB5 CD HAW HAT HPW HLS HIN HIF HXI HRL
                      by_cases he : r.2 = 0
                      · have hr0 : (tI N es p s l q S i).2 = 0 := by rw [← HRI.out]; exact he
                        have hal : all.length = i := HLt.out.dl
                        have HLt2 := Lib.hid (HLt.out.done (e := ⟨Q, T, Z1, z1, Z2, z2, Z3, z3⟩) (by show mkP Q T = _; rw [← HRI.out]; exact HXM.out) hr0)
                        have HO1 := Lib.hid (own_next HPs1.out.own (below_alloc wc (.cells #[.int .i64 Q, .int .i64 T.step, .slice Z1 T.vals.length z1, .slice Z2 T.rest.length z2, .slice Z3 T.inn.length z3] 45)))
                        have HL1 := Lib.hid (show Lies (wc.alloc (.cells #[.int .i64 Q, .int .i64 T.step, .slice Z1 T.vals.length z1, .slice Z2 T.rest.length z2, .slice Z3 T.inn.length z3] 45)) (wc.heap.size + 1) 5 (some ⟨wc.heap.size, 0, none⟩) 1 (pc [⟨Q, T, Z1, z1, Z2, z2, Z3, z3⟩]) from lies_cells wc (pc [⟨Q, T, Z1, z1, Z2, z2, Z3, z3⟩]) 45 1 5 rfl)
                        have HPs2 := Lib.hid (HPs1.out.next (below_alloc wc (.cells #[.int .i64 Q, .int .i64 T.step, .slice Z1 T.vals.length z1, .slice Z2 T.rest.length z2, .slice Z3 T.inn.length z3] 45)))
                        have HZS2 := Lib.hid (HZS.out.next (below_alloc wc (.cells #[.int .i64 Q, .int .i64 T.step, .slice Z1 T.vals.length z1, .slice Z2 T.rest.length z2, .slice Z3 T.inn.length z3] 45)))
                        have y0 := cell_of_row _ bz 0 _ 45 (0, 0) HAZ.out
                        have y1 := cell_of_row _ bz 1 _ 45 (0, 0) HAZ.out
                        have y2 := cell_of_row _ bz 2 _ 45 (0, 0) HAZ.out
                        have y3 := cell_of_row _ bz 3 _ 45 (0, 0) HAZ.out
                        have y4 := cell_of_row _ bz 4 _ 45 (0, 0) HAZ.out
                        have HAL := Lib.hid hal
                        rw [he]
                        clear he hr0 hal HXM HPs1 HZS HXW HRI HLW HPs HLt HBX HAZ
                        go_wp2_with (at_builtin; go_must (refine wpList_app3 _ rfl (.tmp 162) (.tmp 164) 40 rfl wt.heap.size 45 ip _ 5 88 Tryz.underlying40 IP.out ZP.out SP.out BP.out rfl (by decide) TA all.length tc (pc all) rfl HO1.out (wc.heap.size + 1) (some ⟨wc.heap.size, 0, none⟩) 1 1 (pc [⟨Q, T, Z1, z1, Z2, z2, Z3, z3⟩]) rfl HL1.out (pc_one' _) (by have := HAL.out; unfold maxLen; omega) (by have := HAL.out; omega) HPs2.out.bl.size ?_))
                        intro A5 c5 w5 ho5 hb5 hg5 hw5
                        have HPs3 := Lib.hid (HPs2.out.app (e := ⟨Q, T, Z1, z1, Z2, z2, Z3, z3⟩) HZS2.out HNB.out ho5 hb5 hg5 (by rw [World.size_alloc]; exact hw5))
                        clear ho5 hb5 hg5 hw5 y0 y1 y2 y3 y4 HO1 HL1 HPs2 HZS2 HNB
                        go_wp2_with fail
                        go_roundw
                        case rel => exact ⟨i + 1, A5, c5, all ++ [⟨Q, T, Z1, z1, Z2, z2, Z3, z3⟩], by go_num, by omega, by rw [List.length_append]; rfl, HLt2, HPs3⟩
                        case measure => simp [intOf]; omega
                      · have hbad := take_bad HR.out H40.out HSL.out.ok HNN.out HDID.out (k := i) (by rw [← HM.out]; exact hlt) (by have := HRI.out; unfold tI at this; rw [← this]; exact he)
                        have h8 : r.2 = 8 := by rw [HRI.out]; exact hbad.1
                        have s8 : sr.2 = 8 := by rw [HSR.out]; exact hbad.2
                        rw [h8, s8]
                        clear he hbad h8 s8
                        go_wp2_with fail
                        refine (knows_any _).mono ?_
                        rintro e wk ⟨rfl, hbk⟩
                        have BK := Lib.hid (HBX.out.trans (hbk.mono HBX.out.size))
                        clear hbk
                        go_wp2_with fail
                        go_ret
                        exact ⟨rfl, BK.out⟩
                  · have hi' : i = m := by omega
                    have hil : ¬ ((i : Int) < (did.length : Int)) := by have := HDM.out; omega
                    obtain ⟨a1, a2, a3⟩ := take_all HR.out H40.out HSL.out.ok HNN.out HDID.out (fun k hk => HLt.out.ok k (by rw [hi', HM.out]; exact hk))
                    have hall : all.map Pe.x = (List.range q.toNat).map (cutP N.toNat q.toNat sr.1) := by
                      have hal : all.length = q.toNat := by rw [HLt.out.dl, hi', HM.out]
                      apply List.ext_getElem
                      · rw [List.length_map, List.length_map, List.length_range, hal]
                      · intro k h1 h2
                        rw [List.length_map] at h1
                        rw [List.getElem_map, List.getElem_map, List.getElem_range, HLt.out.dx k h1, HSR.out]
                        exact a3 k (by rw [← hal]; exact h1)
                    have hs0 : sr.2 = 0 := by rw [HSR.out]; exact a1
                    have CJ := Lib.hid (join_any N A n c es p s l q TA tc all wo (HA8.out.next HBW.out) hnc hn HPs.out.pl)
                    rw [hall, join_of_split (by rw [HSR.out]; exact a2)] at CJ
                    have HTW := Lib.hid (HT8.out.next HBW.out)
                    have HWW := Lib.hid (HW8.out.next HBW.out)
                    obtain ⟨⟨z1, g0, g1, j0, j1, j2, j3, bl1⟩, z2, s0, s1, s2, s3⟩ := id HXW.out
                    rw [hs0]
                    clear z1 bl1 z2 s0 s1 s2 s3 hlt hi' a1 a2 a3 hall hs0
                    go_wp2_with fail
                    refine CJ.out.mono ?_
                    rintro e w6 ⟨hb6, Y1, y1, Y2, y2, Y3, y3, rfl, hY, -, -, -⟩
                    have hb7 := hb6.trans ((below_alloc w6 (.cells #[.int .i64 sr.1.step, .slice Y1 sr.1.vals.length y1, .slice Y2 sr.1.rest.length y2, .slice Y3 sr.1.inn.length y3] 31)).mono hb6.size)
                    have HBX := Lib.hid (HXW.out.next hb7).x.bl
                    have HT7 := Lib.hid (HTW.out.next hb7)
                    have HW7 := Lib.hid (HWW.out.next hb7)
                    have HY7 := Lib.hid (hY.next (below_alloc w6 (.cells #[.int .i64 sr.1.step, .slice Y1 sr.1.vals.length y1, .slice Y2 sr.1.rest.length y2, .slice Y3 sr.1.inn.length y3] 31)))
                    have HV7 := Lib.hid (show At4 w6.heap.size #[.int .i64 sr.1.step, .slice Y1 sr.1.vals.length y1, .slice Y2 sr.1.rest.length y2, .slice Y3 sr.1.inn.length y3] (w6.alloc (.cells #[.int .i64 sr.1.step, .slice Y1 sr.1.vals.length y1, .slice Y2 sr.1.rest.length y2, .slice Y3 sr.1.inn.length y3] 31)) from heap_alloc_new _ _)
                    clear hb6 hb7 hY g0 g1 j0 j1 j2 j3 CJ
                    go_upto_region 31 with fail
                    obtain ⟨bv, hbv⟩ : ∃ b, b = w6.heap.size := ⟨_, rfl⟩
                    rw [← hbv] at HV7 ⊢
                    generalize w6.alloc (.cells #[.int .i64 sr.1.step, .slice Y1 sr.1.vals.length y1, .slice Y2 sr.1.rest.length y2, .slice Y3 sr.1.inn.length y3] 31) = w7 at *
                    clear hbv
                    have r0 := cell_of_row _ bw 0 _ 31 (0, 0) HW7.out
                    have r1 := cell_of_row _ bw 1 _ 31 (0, 0) HW7.out
                    have r2 := cell_of_row _ bw 2 _ 31 (0, 0) HW7.out
                    have r3 := cell_of_row _ bw 3 _ 31 (0, 0) HW7.out
                    have v0 := cell_of_row _ bv 0 _ 31 (0, 0) HV7.out
                    have v1 := cell_of_row _ bv 1 _ 31 (0, 0) HV7.out
                    have v2 := cell_of_row _ bv 2 _ 31 (0, 0) HV7.out
                    have v3 := cell_of_row _ bv 3 _ 31 (0, 0) HV7.out
                    go_wp2_with fail
                    refine (same_yes sr.1 Y1 y1 Y2 y2 Y3 y3 X1 x1 X2 x2 X3 x3 _ HY7.out HT7.out).mono ?_
                    rintro e w8 ⟨rfl, hb8⟩
                    have HB8 := Lib.hid (HBX.out.trans (hb8.mono HBX.out.size))
                    clear hb8 r0 r1 r2 r3 v0 v1 v2 v3
                    go_wp2_with fail
                    refine (knows_any _).mono ?_
                    rintro e wk ⟨rfl, hbk⟩
                    have BK := Lib.hid (HB8.out.trans (hbk.mono HB8.out.size))
                    clear hbk
                    go_wp2_with fail
                    go_ret
                    exact ⟨rfl, BK.out⟩
end Go.Proofs.YtbjmbjibkifboaaGreat
