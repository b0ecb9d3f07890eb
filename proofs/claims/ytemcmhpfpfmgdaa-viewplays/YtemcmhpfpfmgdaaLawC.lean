import Derived.Test.YtemcmhpfpfmgdaaVh
import Derived.Test.YtemcmhpfpfmgdaaVi
import Derived.Test.YtemcmhpfpfmgdaaVj
import Derived.Test.YtemcmhpfpfmgdaaVd
import Derived.Test.YtemcmhpfpfmgdaaDoor
import Derived.Deep.RegionHeld3
/-
  Words for the laws' loops over acts; the walks of ViewIncs and ViewFences. No condition but that the numbers are of 64 bits.
-/
namespace Go.Proofs.Ytemcmhpfpfmgdaa
open Go.ChangeShapes Go.WideShapes Go.ChangeAt Go.RowKit Go.Maps
set_option linter.unusedVariables false

/-- Cells in memory that do not lie in a block. -/
def Lx (W : World) (b s : Nat) (A : Option Addr) (n : Nat) (xs : List Value) : Prop := Lies W W.heap.size s A n xs ∧ (xs ≠ [] → ∀ ad, A = some ad → ad.block ≠ b)
theorem Lx.set2 {W : World} {b s n : Nat} {A : Option Addr} {xs : List Value} (h : Lx W b s A n xs) (u v : Value) : Lx ((W.setCell ⟨b, 0, none⟩ u).setCell ⟨b, 1, none⟩ v) b s A n xs := by
  refine ⟨⟨h.1.1, fun j x hj => ?_⟩, h.2⟩
  obtain ⟨ad, e, hb, hc⟩ := h.1.2 j x hj
  have hne := h.2 (fun e => by rw [e] at hj; simp at hj) ad e
  refine ⟨ad, e, by simpa [World.setCell] using hb, ?_⟩
  exact (World.cell?_of_block ((Below.heap_setCell _ _ _ _ (by rw [block_add]; exact hne)).trans (Below.heap_setCell _ _ _ _ (by rw [block_add]; exact hne)))).trans hc
theorem Lx.next {W W' : World} {b s n : Nat} {A : Option Addr} {xs : List Value} (h : Lx W b s A n xs) (hb : Below W.heap.size W W') : Lx W' b s A n xs := ⟨h.1.next hb, h.2⟩
theorem Lx.of_own {W : World} {base b s n c : Nat} {e : TypeId} {A : Option Addr} {xs : List Value} (h : W.ownsRow base e s (.slice A n c) n xs) (hb : b < base) : Lx W b s A n xs := by
  refine ⟨Lies.of_own h, fun hne ad ea => ?_⟩
  subst ea
  rcases h.2 with ⟨hv, _⟩ | ⟨g, cap, cur, hv, hg, _⟩
  · cases hv
  · injection hv with e1 _ _
    injection e1 with e1
    subst e1
    show g ≠ b
    omega
theorem Lx.of_low {W : World} {B b s n : Nat} {A : Option Addr} {xs : List Value} (h : Lies W B s A n xs) (hB : B ≤ b) (hW : B ≤ W.heap.size) : Lx W b s A n xs := by
  refine ⟨h.more hW, fun hne ad ea => ?_⟩
  cases xs with
  | nil => exact absurd rfl hne
  | cons x r =>
    obtain ⟨ad', e, hb, _⟩ := h.2 0 x rfl
    rw [ea] at e
    injection e with e
    subst e
    omega
/-- A view boxed in a block, and its members, lie so. -/
structure Vx (w : World) (b : Nat) (vn : Int) (A : Option Addr) (c : Nat) (vl : List Mb) (W : World) : Prop where
  h : W.heap[b]? = some (.cells #[.int .i64 vn, .slice A vl.length c] 24 (0, 0))
  l : Lx W b 2 A vl.length (mc vl)
  n : vl.length ≤ 1000
  bl : Below w.heap.size w W
theorem Vx.next {w W W' : World} {b : Nat} {vn : Int} {A : Option Addr} {c : Nat} {vl : List Mb} (h : Vx w b vn A c vl W) (hb : Below W.heap.size W W') : Vx w b vn A c vl W' :=
  ⟨(hb.block _ (Array.getElem?_eq_some_iff.1 h.h).1).trans h.h, h.l.next hb, h.n, h.bl.trans (hb.mono h.bl.size)⟩
theorem Vx.lt {w W : World} {b : Nat} {vn : Int} {A : Option Addr} {c : Nat} {vl : List Mb} (h : Vx w b vn A c vl W) : b < W.heap.size := (Array.getElem?_eq_some_iff.1 h.h).1
/-- Another view is stored there. -/
theorem Vx.set {w W : World} {b : Nat} {vn : Int} {A : Option Addr} {c : Nat} {vl : List Mb} (h : Vx w b vn A c vl W) (hb : w.heap.size ≤ b) (xn : Int) (X : Option Addr) (d : Nat) (xl : List Mb) (hx : Lx W b 2 X xl.length (mc xl)) (hn : xl.length ≤ 1000) :
    Vx w b xn X d xl ((W.setCell ⟨b, 0, none⟩ (.int .i64 xn)).setCell ⟨b, 1, none⟩ (.slice X xl.length d)) :=
  ⟨set2_at h.h _ _, hx.set2 _ _, hn, below_set2 h.bl hb _ _⟩
theorem act_len {g : V} (hg : rightV g = true) (k id inc : Int) : (actG g k id inc).2.length ≤ 1000 := by have := right_num (act_right hg k id inc); omega
def InRel (la : List Ac) (id : Int) (w : World) (n i : Value) (W : World) : Prop := ∃ (k : Nat) (vn : Int) (V : Option Addr) (cv : Nat) (vl : List Mb) (x : Int), i = .int .i64 (k : Int) ∧ n = .int .i64 x ∧ k ≤ la.length ∧ k ≤ 40 ∧ Hid (Vx w w.heap.size vn V cv vl W) ∧ Hid (x = incL (good (vn, vl)).2 id)
set_option maxHeartbeats 4000000 in
set_option maxRecDepth 20000 in
theorem incs_walk (num : Int) (A : Option Addr) (c : Nat) (l : List Mb) (B : Option Addr) (cb : Nat) (la : List Ac) (id : Int) (w : World) (hA : Lies w w.heap.size 2 A l.length (mc l)) (hl : l.length ≤ maxLen) (hB : Lies w w.heap.size 3 B la.length (ac la)) (hla : la.length ≤ maxLen) (hwf : ∀ a ∈ la, (Lit.int .i64 a.2.1).wf = true) (hw : (Lit.int .i64 id).wf = true) :
    Calls Try.prog 8 #[.agg #[.int .i64 num, .slice A l.length c], .slice B la.length cb, .int .i64 id] w fun e w' => e = .returned (.bool true) ∧ Below w.heap.size w w' := by
  have HA := Lib.hid hA
  have HB1 := Lib.hid (below_alloc w (.cells #[.int .i64 num, .slice A l.length c] 24))
  have h1 := World.alloc_heap_new w (.cells #[.int .i64 num, .slice A l.length c] 24)
  have HZ1 := Lib.hid (show w.heap.size < (w.alloc (.cells #[.int .i64 num, .slice A l.length c] 24)).heap.size by simp)
  have HL := Lib.hid hB
  clear hA hB
  go_enter Try.func8, Try.ntmps8
  go_upto_region 1 with fail
  generalize w.alloc (.cells #[.int .i64 num, .slice A l.length c] 24) = w1 at HB1 h1 HZ1 ⊢
  have d0 := c2_0 h1
  have d1 := c2_1 h1
  go_wp2_with fail
  refine (great_any num A c l.length _ hl).mono ?_
  rintro e w2 ⟨rfl, hb2⟩
  have HB := Lib.hid (HB1.out.trans (hb2.mono HB1.out.size))
  have H2 := Lib.hid ((hb2.block _ HZ1.out).trans h1)
  have HZ2 := Lib.hid (show w.heap.size < w2.heap.size from Nat.lt_of_lt_of_le HZ1.out hb2.size)
  clear d0 d1 h1 hb2
  have d0 := c2_0 H2.out
  have d1 := c2_1 H2.out
  by_cases hg : 50 < l.length
  · have hg' := decide_eq_true hg
    rw [hg']
    clear hg hg'
    go_wp2_with fail
    refine (knows_any _).mono ?_
    rintro e w3 ⟨rfl, hb3⟩
    have HB3 := Lib.hid (HB.out.trans (hb3.mono HB.out.size))
    clear hb3
    go_wp2_with fail
    go_ret
    exact ⟨rfl, HB3.out⟩
  · have hg' := decide_eq_false hg
    have hl50 : l.length ≤ 50 := by omega
    rw [hg']
    clear hg hg'
    have hla' : (la.length : Int) ≤ 9223372036854775807 := by unfold maxLen at hla; omega
    go_wp2_with fail
    refine (inc_any num A c l id _ (HA.out.next HB.out) (by omega) hw).mono ?_
    rintro e w3 ⟨rfl, hb3⟩
    have HV3 := Lib.hid (show Vx w w.heap.size num A c l w3 from ⟨(hb3.block _ HZ2.out).trans H2.out, Lx.of_low (HA.out.below (HB.out.trans (hb3.mono HB.out.size))) (Nat.le_refl _) (HB.out.trans (hb3.mono HB.out.size)).size, by omega, HB.out.trans (hb3.mono HB.out.size)⟩)
    clear hb3 d0 d1
    generalize hx0 : incL (good (num, l)).2 id = x0
    have HX0 := Lib.hid hx0.symm
    clear hx0
    go_wp2_with fail
    go_loopw [7, 8, 9] (fun n i _ W => InRel la id w n i W) (fun _ i _ W => 41 - (intOf i).toNat)
    case atStart => exact ⟨0, num, A, c, l, x0, rfl, rfl, Nat.zero_le _, Nat.zero_le _, HV3, HX0⟩
    case round =>
      obtain ⟨k, vn, V, cv, vl, x, rfl, rfl, hk, hk40, HV, HX⟩ := hrel
      have d0 := c2_0 HV.out.h
      have d1 := c2_1 HV.out.h
      by_cases hlt : k < la.length
      · by_cases h40 : k < 40
        · obtain ⟨ad, rfl, hadb, e0, e1, e2⟩ := (HL.out.below HV.out.bl).ac k hlt
          have hkl : (k : Int) < (la.length : Int) := by omega
          have hk40' : (k : Int) < 40 := by omega
          have HWA := Lib.hid (hwf _ (aAt_mem la k hlt))
          obtain ⟨a, ha⟩ : ∃ a, a = aAt la k := ⟨_, rfl⟩
          rw [← ha] at HWA e0 e1 e2
          clear ha
          obtain ⟨ak, ai, an⟩ := a
          simp only at e0 e1 e2
          have CD := Lib.hid (do_any vn V cv vl ak ai an wr.drew (HV.out.l.1.drewN 1) (by have := HV.out.n; omega) HWA.out)
          have HM0 := Lib.hid (act_inc (good_right (vn, vl)) ak ai an id)
          have HRR := Lib.hid (act_right (good_right (vn, vl)) ak ai an)
          have HLN := Lib.hid (act_len (good_right (vn, vl)) ak ai an)
          rw [← HX.out] at HM0
          obtain ⟨y, hy⟩ : ∃ y, y = actG (good (vn, vl)) ak ai an := ⟨_, rfl⟩
          rw [← hy] at HM0 HRR HLN CD
          clear hy
          generalize actE (good (vn, vl)) ak ai an = E at *
          obtain ⟨yn, yl⟩ := y
          have CD := Lib.hid (show Calls Try.prog 14 #[.agg #[.int .i64 vn, .slice V vl.length cv], .agg #[.int .i64 ak, .int .i64 ai, .int .i64 an]] wr.drew fun e w' => ∃ A6 c6, e = .returned (.tuple #[.agg #[.int .i64 yn, .slice A6 yl.length c6], .int .i64 E]) ∧ w'.ownsRow wr.heap.size 59 2 (.slice A6 yl.length c6) yl.length (mc yl) ∧ Below wr.heap.size wr.drew w' from CD.out)
          go_upto_region 7 with fail
          go_region_law (first | (go_simp; go_at_call 14; (with_reducible refine CD.out.mono ?_); rintro e w6 ⟨A6, c6, rfl, ho6, hb6⟩; have HV6 := Lib.hid (HV.out.next (below_of_drew hb6)); have HX6 := Lib.hid (Lx.of_own ho6 HV.out.lt); have r0 := c2_0 HV6.out.h; have f0 := unfrozen HV6.out.h 0; have r1 := c2_1 HV6.out.h; have f1 := unfrozen HV6.out.h 1; clear ho6 hb6) | fail)
          all_goals
            have HVS := Lib.hid (HV6.out.set (Nat.le_refl _) yn A6 c6 yl HX6.out HLN.out)
            clear r0 f0 r1 f1 d0 d1 e0 e1 e2
            go_upto_region 8 with fail
            generalize (w6.setCell ⟨w.heap.size, 0, none⟩ (.int .i64 yn)).setCell ⟨w.heap.size, 1, none⟩ (.slice A6 yl.length c6) = w7 at HVS ⊢
            have d0 := c2_0 HVS.out.h
            have d1 := c2_1 HVS.out.h
            have CI := Lib.hid (show Calls Try.prog 18 #[.agg #[.int .i64 yn, .slice A6 yl.length c6], .int .i64 id] w7 fun e w' => e = .returned (.int .i64 (incL yl id)) ∧ Below w7.heap.size w7 w' by
              have h := inc_any yn A6 c6 yl id w7 HVS.out.l.1 (by have := HVS.out.n; omega) hw
              rw [good_eq HRR.out] at h
              exact h)
            go_wp2_with fail
            refine CI.out.mono ?_
            rintro e w8 ⟨rfl, hb8⟩
            have HV8 := Lib.hid (HVS.out.next hb8)
            have HM1 := Lib.hid (show incL yl id = 0 ∨ x ≤ incL yl id from HM0.out)
            have HGE := Lib.hid (show incL yl id = incL (good (yn, yl)).2 id by rw [good_eq HRR.out])
            clear hb8 d0 d1
            generalize incL yl id = m at *
            by_cases m0 : m = 0
            · have m0' : (m != 0) = false := by simpa using m0
              have HGE' := Lib.hid (show (0 : Int) = incL (good (yn, yl)).2 id by rw [← m0]; exact HGE.out)
              subst m0
              go_wp2_with fail
              go_roundw
              case rel => exact ⟨k + 1, yn, A6, c6, yl, _, by go_num, rfl, by omega, by omega, HV8, HGE⟩
              case measure => simp [intOf]; omega
            · have m0' : (m != 0) = true := by simpa using m0
              have m1 : ¬ m < x := by rcases HM1.out with h | h; exact absurd h m0; omega
              clear m0
              go_wp2_with fail
              go_roundw
              case rel => exact ⟨k + 1, yn, A6, c6, yl, _, by go_num, rfl, by omega, by omega, HV8, HGE⟩
              case measure => simp [intOf]; omega
        · have hkl : (k : Int) < (la.length : Int) := by omega
          have hk40' : ¬ (k : Int) < 40 := by omega
          clear d0 d1
          go_wp2_with fail
          refine (knows_any _).mono ?_
          rintro e w8 ⟨rfl, hb8⟩
          have HV8 := Lib.hid (HV.out.next hb8)
          clear hb8
          go_wp2_with fail
          go_ret
          exact ⟨rfl, HV8.out.bl⟩
      · have hkl : ¬ (k : Int) < (la.length : Int) := by omega
        clear d0 d1
        go_wp2_with fail
        refine (knows_any _).mono ?_
        rintro e w8 ⟨rfl, hb8⟩
        have HV8 := Lib.hid (HV.out.next hb8)
        clear hb8
        go_wp2_with fail
        go_ret
        exact ⟨rfl, HV8.out.bl⟩
end Go.Proofs.Ytemcmhpfpfmgdaa
