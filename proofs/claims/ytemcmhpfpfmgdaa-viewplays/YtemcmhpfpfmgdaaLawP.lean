import Derived.Test.YtemcmhpfpfmgdaaLawX
import Derived.Test.YtemcmhpfpfmgdaaVg
import Derived.Deep.RegionHeld3
/-
  The walk of ViewPlays. No condition but that the numbers are of 64 bits.
-/
namespace Go.Proofs.Ytemcmhpfpfmgdaa
open Go.ChangeShapes Go.WideShapes Go.ChangeAt Go.RowKit Go.Maps
set_option linter.unusedVariables false

theorem lies_ne {W : World} {B n b : Nat} {A : Option Addr} {l : List Mb} {x : Value} {P : Option Addr} {p q : Nat} {t : TypeId} (h : Lies W B 2 A n (mc l)) (hb : W.heap[b]? = some (.cells #[x, .slice P p q] t (0, 0))) (hne : mc l ≠ []) : ∀ ad, A = some ad → ad.block ≠ b := by
  intro ad ea hbk
  cases l with
  | nil => exact hne rfl
  | cons m r =>
    obtain ⟨ad0, e0, _, c0⟩ := h.2 0 (.int .i64 m.1) rfl
    obtain ⟨ad1, e1, _, c1⟩ := h.2 1 (.int .i64 m.2) rfl
    rw [ea] at e0 e1
    injection e0 with e0
    injection e1 with e1
    subst e0 e1
    obtain ⟨bk, o, sp⟩ := ad
    simp only at hbk
    subst hbk
    cases sp with
    | some s => simp [Addr.add, World.cell?, hb] at c0
    | none =>
      simp [Addr.add, World.cell?, hb] at c0 c1
      match o, c0, c1 with
      | 0, c0, c1 => simp at c1
      | 1, c0, c1 => simp at c0
      | o + 2, c0, c1 => simp at c0
theorem lx_of {W : World} {n b : Nat} {A : Option Addr} {l : List Mb} {x : Value} {P : Option Addr} {p q : Nat} {t : TypeId} (h : Lies W W.heap.size 2 A n (mc l)) (hb : W.heap[b]? = some (.cells #[x, .slice P p q] t (0, 0))) : Lx W b 2 A n (mc l) := ⟨h, fun hne => lies_ne h hb hne⟩
/-- A view of the program's and one of the document's, both boxed: they are one view. -/
structure Px (w : World) (b5 : Nat) (vn : Int) (vl : List Mb) (V : Option Addr) (cv : Nat) (D : Option Addr) (cd : Nat) (W : World) : Prop where
  v : Vx w w.heap.size vn V cv vl W
  h5 : W.heap[b5]? = some (.cells #[.int .i64 vn, .slice D vl.length cd] 30 (0, 0))
  l5 : Lies W W.heap.size 2 D vl.length (mc vl)
  hb : w.heap.size < b5
theorem Px.next {w W W' : World} {b5 : Nat} {vn : Int} {vl : List Mb} {V : Option Addr} {cv : Nat} {D : Option Addr} {cd : Nat} (h : Px w b5 vn vl V cv D cd W) (hb : Below W.heap.size W W') : Px w b5 vn vl V cv D cd W' :=
  ⟨h.v.next hb, (hb.block _ (Array.getElem?_eq_some_iff.1 h.h5).1).trans h.h5, h.l5.next hb, h.hb⟩
/-- Both are given other ones. -/
theorem Px.set {w W : World} {b5 : Nat} {vn : Int} {vl : List Mb} {V : Option Addr} {cv : Nat} {D : Option Addr} {cd : Nat} (h : Px w b5 vn vl V cv D cd W) {yn : Int} {yl : List Mb} {X : Option Addr} {x : Nat} {Y : Option Addr} {y : Nat}
    (hX : Lies W W.heap.size 2 X yl.length (mc yl)) (hY : Lies W W.heap.size 2 Y yl.length (mc yl)) (hn : yl.length ≤ 1000) :
    Px w b5 yn yl X x Y y ((((W.setCell ⟨w.heap.size, 0, none⟩ (.int .i64 yn)).setCell ⟨w.heap.size, 1, none⟩ (.slice X yl.length x)).setCell ⟨b5, 0, none⟩ (.int .i64 yn)).setCell ⟨b5, 1, none⟩ (.slice Y yl.length y)) := by
  have hb := h.hb
  have k1 := h.v.set (Nat.le_refl _) yn X x yl (lx_of hX h.v.h) hn
  have h5' := set2_other (b := w.heap.size) h.h5 (by omega) (.int .i64 yn) (.slice X yl.length x)
  have lX' := ((lx_of hX h.h5 : Lx W b5 2 X yl.length (mc yl)))
  have lX1 : Lx ((W.setCell ⟨w.heap.size, 0, none⟩ (.int .i64 yn)).setCell ⟨w.heap.size, 1, none⟩ (.slice X yl.length x)) b5 2 X yl.length (mc yl) := lx_of k1.l.1 h5'
  have lY1 := ((lx_of hY h.v.h).set2 (.int .i64 yn) (.slice X yl.length x)).1
  have lY2 := lx_of lY1 h5'
  refine ⟨⟨set2_other k1.h (by omega) _ _, ⟨(lX1.set2 _ _).1, k1.l.2⟩, hn, below_set2 k1.bl (by omega) _ _⟩, set2_at h5' _ _, (lY2.set2 _ _).1, hb⟩
theorem rp_act {wq : World} {vn : Int} {vl : List Mb} {D : Option Addr} {cd : Nat} {ak ai an : Int} (h : Lies wq wq.heap.size 2 D vl.length (mc vl)) (hn : vl.length ≤ 1000) (hk : ak = 0) :
    Calls Try.prog 15 #[.agg #[.int .i64 vn, .slice D vl.length cd], .int .i64 ai, .int .i64 an] wq (RPost (actG (good (vn, vl)) ak ai an) (actE (good (vn, vl)) ak ai an) wq) := by
  rw [(act_0 hk).1, (act_0 hk).2]
  exact rjoin_any vn D cd vl ai an wq h (by omega)
theorem rp_act' {wq : World} {vn : Int} {vl : List Mb} {D : Option Addr} {cd : Nat} {ak ai an : Int} (h : Lies wq wq.heap.size 2 D vl.length (mc vl)) (hn : vl.length ≤ 1000) (hk : ¬ ak = 0) :
    Calls Try.prog 16 #[.agg #[.int .i64 vn, .slice D vl.length cd], .int .i64 ai] wq (RPost (actG (good (vn, vl)) ak ai an) (actE (good (vn, vl)) ak ai an) wq) := by
  rw [(act_1 hk).1, (act_1 hk).2]
  exact rleave_any vn D cd vl ai wq h (by omega)
def PlRel (la : List Ac) (w : World) (b5 : Nat) (i : Value) (W : World) : Prop := ∃ (k : Nat) (vn : Int) (vl : List Mb) (V : Option Addr) (cv : Nat) (D : Option Addr) (cd : Nat), i = .int .i64 (k : Int) ∧ k ≤ la.length ∧ k ≤ 40 ∧ Hid (Px w b5 vn vl V cv D cd W)
set_option maxHeartbeats 4000000 in
set_option maxRecDepth 20000 in
theorem plays_walk (num : Int) (A : Option Addr) (c : Nat) (l : List Mb) (B : Option Addr) (cb : Nat) (la : List Ac) (w : World) (hA : Lies w w.heap.size 2 A l.length (mc l)) (hl : l.length ≤ maxLen) (hB : Lies w w.heap.size 3 B la.length (ac la)) (hla : la.length ≤ maxLen) (hwf : ∀ a ∈ la, (Lit.int .i64 a.2.1).wf = true) :
    Calls Try.prog 3 #[.agg #[.int .i64 num, .slice A l.length c], .slice B la.length cb] w fun e w' => e = .returned (.bool true) ∧ Below w.heap.size w w' := by
  have HA := Lib.hid hA
  have HB1 := Lib.hid (below_alloc w (.cells #[.int .i64 num, .slice A l.length c] 24))
  have h1 := World.alloc_heap_new w (.cells #[.int .i64 num, .slice A l.length c] 24)
  have HZ1 := Lib.hid (show w.heap.size < (w.alloc (.cells #[.int .i64 num, .slice A l.length c] 24)).heap.size by simp)
  have HL := Lib.hid hB
  clear hA hB
  go_enter Try.func3, Try.ntmps3
  go_upto_region 1 with fail
  generalize w.alloc (.cells #[.int .i64 num, .slice A l.length c] 24) = w1 at HB1 h1 HZ1 ⊢
  have d0 := c2_0 h1
  have d1 := c2_1 h1
  go_wp2_with fail
  refine (great_any num A c l.length _ hl).mono ?_
  rintro e w2 ⟨rfl, hb2⟩
  have HB := Lib.hid (HB1.out.trans (hb2.mono HB1.out.size))
  have H2 := Lib.hid ((hb2.block _ HZ1.out).trans h1)
  have HZ2 := Lib.hid (show w.heap.size < w2.heap.size from Nat.lt_of_lt_of_le HZ1.out hb2.size)
  clear d0 d1 h1 hb2
  have d0 := c2_0 H2.out
  have d1 := c2_1 H2.out
  by_cases hg : 50 < l.length
  · have hg' := decide_eq_true hg
    rw [hg']
    clear hg hg'
    go_wp2_with fail
    refine (knows_any _).mono ?_
    rintro e w3 ⟨rfl, hb3⟩
    have HB3 := Lib.hid (HB.out.trans (hb3.mono HB.out.size))
    clear hb3
    go_wp2_with fail
    go_ret
    exact ⟨rfl, HB3.out⟩
  · have hg' := decide_eq_false hg
    have hl50 : l.length ≤ 50 := by omega
    rw [hg']
    clear hg hg'
    have hla' : (la.length : Int) ≤ 9223372036854775807 := by unfold maxLen at hla; omega
    go_wp2_with fail
    refine (as_any num A c l _ (HA.out.next HB.out) (by omega)).mono ?_
    rintro e w3 ⟨A2, c2, rfl, ho3, hb3⟩
    simp only at ho3
    have HB4 := Lib.hid (hb3.trans ((below_alloc w3 (.cells #[.int .i64 num, .slice A2 l.length c2] 30)).mono hb3.size))
    have H4 := Lib.hid (World.alloc_heap_new w3 (.cells #[.int .i64 num, .slice A2 l.length c2] 30))
    have HO4 := Lib.hid (own_next ho3 (below_alloc w3 (.cells #[.int .i64 num, .slice A2 l.length c2] 30)))
    have HS3 := Lib.hid (show w.heap.size < w3.heap.size from Nat.lt_of_lt_of_le HZ2.out hb3.size)
    clear ho3 hb3 d0 d1
    go_upto_region 4 with fail
    generalize w3.alloc (.cells #[.int .i64 num, .slice A2 l.length c2] 30) = w4 at HB4 H4 HO4 ⊢
    have HP4 := Lib.hid (show Px w w3.heap.size num l A c A2 c2 w4 from ⟨⟨(HB4.out.block _ HZ2.out).trans H2.out, Lx.of_low (HA.out.below (HB.out.trans (HB4.out.mono HB.out.size))) (Nat.le_refl _) (HB.out.trans (HB4.out.mono HB.out.size)).size, by omega, HB.out.trans (HB4.out.mono HB.out.size)⟩, H4.out, Lies.of_own HO4.out, HS3.out⟩)
    have HF := Lib.hid (show ∀ W : World, Below w4.heap.size w4 W → W.cell? ⟨w.heap.size, 0, none⟩ = some (.int .i64 num) ∧ W.cell? ⟨w.heap.size, 1, none⟩ = some (.slice A l.length c) ∧ W.cell? ⟨w3.heap.size, 0, none⟩ = some (.int .i64 num) ∧ W.cell? ⟨w3.heap.size, 1, none⟩ = some (.slice A2 l.length c2) ∧ Below w4.heap.size w4 W from fun W hb =>
      ⟨c2_0 (HP4.out.next hb).v.h, c2_1 (HP4.out.next hb).v.h, c2_0 (HP4.out.next hb).h5, c2_1 (HP4.out.next hb).h5, hb⟩)
    have C12 := Lib.hid (fun (W : World) (hb : Below w4.heap.size w4 W) => right_any num A c l W (HP4.out.next hb).v.l.1 (by omega))
    have C13 := Lib.hid (fun (W : World) (hb : Below w4.heap.size w4 W) => rright_any num A2 c2 l W (HP4.out.next hb).l5 (by omega))
    generalize rightV (num, l) = br at C12 C13
    have q1 := HF.out w4.drew (Below.refl _ _).drew
    go_region_held3 (fun w' => w'.cell? ⟨w.heap.size, 0, none⟩ = some (.int .i64 num) ∧ w'.cell? ⟨w.heap.size, 1, none⟩ = some (.slice A l.length c) ∧ w'.cell? ⟨w3.heap.size, 0, none⟩ = some (.int .i64 num) ∧ w'.cell? ⟨w3.heap.size, 1, none⟩ = some (.slice A2 l.length c2) ∧ Below w4.heap.size w4 w')
      (exact q1)
      (first | ((go_at_call 12); (with_reducible refine (C12.out _ q1.2.2.2.2).mono ?_); rintro e w9 ⟨rfl, hb9⟩; have q1 := HF.out w9 ((q1.2.2.2.2).trans (hb9.mono (q1.2.2.2.2).size)); clear hb9) | ((go_at_call 13); (with_reducible refine (C13.out _ q1.2.2.2.2).mono ?_); rintro e w9 ⟨rfl, hb9⟩; have q1 := HF.out w9 ((q1.2.2.2.2).trans (hb9.mono (q1.2.2.2.2).size)); clear hb9))
    all_goals
      have HP9 := Lib.hid (HP4.out.next q1.2.2.2.2)
      clear q1 C12 C13 HF
      go_wp2_with fail
      go_loopw [6, 7, 8, 9, 10] (fun i _ _ _ _ W => PlRel la w w3.heap.size i W) (fun i _ _ _ _ W => 41 - (intOf i).toNat)
      case atStart => exact ⟨0, num, l, A, c, A2, c2, rfl, Nat.zero_le _, Nat.zero_le _, HP9⟩
      case round =>
        obtain ⟨k, vn, vl, V, cv, D, cd, rfl, hk, hk40, HP⟩ := hrel
        have HV := Lib.hid HP.out.v
        have d0 := c2_0 HP.out.v.h
        have d1 := c2_1 HP.out.v.h
        by_cases hlt : k < la.length
        · by_cases h40 : k < 40
          · obtain ⟨ad, rfl, hadb, e0, e1, e2⟩ := (HL.out.below HP.out.v.bl).ac k hlt
            have hkl : (k : Int) < (la.length : Int) := by omega
            have hk40' : (k : Int) < 40 := by omega
            have HWA := Lib.hid (hwf _ (aAt_mem la k hlt))
            obtain ⟨a, ha⟩ : ∃ a, a = aAt la k := ⟨_, rfl⟩
            rw [← ha] at HWA e0 e1 e2
            clear ha
            obtain ⟨ak, ai, an⟩ := a
            simp only at e0 e1 e2
            have CD := Lib.hid (do_any vn V cv vl ak ai an wr (HV.out.l.1) (by have := HV.out.n; omega) HWA.out)
            clear CD
            have CD := Lib.hid (show ∀ W : World, Below wr.heap.size wr W → Calls Try.prog 14 #[.agg #[.int .i64 vn, .slice V vl.length cv], .agg #[.int .i64 ak, .int .i64 ai, .int .i64 an]] W (EPost (actG (good (vn, vl)) ak ai an) (actE (good (vn, vl)) ak ai an) 59 W) from fun W hb => do_any vn V cv vl ak ai an W (HV.out.next hb).l.1 (by have := HV.out.n; omega) HWA.out)
            have HLN := Lib.hid (act_len (good_right (vn, vl)) ak ai an)
            have CJ := Lib.hid (fun (W : World) (hb : Below wr.heap.size wr W) (hk : ak = 0) => rp_act (vn := vn) (ai := ai) (an := an) (cd := cd) (HP.out.next hb).l5 HV.out.n hk)
            have CL := Lib.hid (fun (W : World) (hb : Below wr.heap.size wr W) (hk : ¬ ak = 0) => rp_act' (vn := vn) (ai := ai) (an := an) (cd := cd) (HP.out.next hb).l5 HV.out.n hk)
            obtain ⟨y, hy⟩ : ∃ y, y = actG (good (vn, vl)) ak ai an := ⟨_, rfl⟩
            rw [← hy] at HLN CD CJ CL
            clear hy
            obtain ⟨E, hE⟩ : ∃ E, E = actE (good (vn, vl)) ak ai an := ⟨_, rfl⟩
            rw [← hE] at CD CJ CL
            clear hE
            obtain ⟨yn, yl⟩ := y
            have HLY := Lib.hid (show yl.length ≤ 1000 from HLN.out)
            have CD := Lib.hid (show ∀ W : World, Below wr.heap.size wr W → Calls Try.prog 14 #[.agg #[.int .i64 vn, .slice V vl.length cv], .agg #[.int .i64 ak, .int .i64 ai, .int .i64 an]] W fun e w' => ∃ A6 c6, e = .returned (.tuple #[.agg #[.int .i64 yn, .slice A6 yl.length c6], .int .i64 E]) ∧ w'.ownsRow W.heap.size 59 2 (.slice A6 yl.length c6) yl.length (mc yl) ∧ Below W.heap.size W w' from CD.out)
            have CJ := Lib.hid (show ∀ W : World, Below wr.heap.size wr W → ak = 0 → Calls Try.prog 15 #[.agg #[.int .i64 vn, .slice D vl.length cd], .int .i64 ai, .int .i64 an] W fun e w' => ∃ A6 c6, e = .returned (.tuple #[.agg #[.int .i64 yn, .slice A6 yl.length c6], .int .i64 E]) ∧ Lies w' w'.heap.size 2 A6 yl.length (mc yl) ∧ Below W.heap.size W w' from CJ.out)
            have CL := Lib.hid (show ∀ W : World, Below wr.heap.size wr W → ¬ ak = 0 → Calls Try.prog 16 #[.agg #[.int .i64 vn, .slice D vl.length cd], .int .i64 ai] W fun e w' => ∃ A6 c6, e = .returned (.tuple #[.agg #[.int .i64 yn, .slice A6 yl.length c6], .int .i64 E]) ∧ Lies w' w'.heap.size 2 A6 yl.length (mc yl) ∧ Below W.heap.size W w' from CL.out)
            have B0 := Lib.hid (show Below wr.heap.size wr wr.drew from (Below.refl _ _).drew)
            have B1 := Lib.hid (show Below wr.heap.size wr (wr.alloc (.cells #[.int .i64 0, .slice none 0 0] 24)).drew from (below_alloc wr _).drew)
            have E0 := Lib.hid e0
            have E1 := Lib.hid e1
            have E2 := Lib.hid e2
            have g0 : (wr.alloc (.cells #[.int .i64 0, .slice none 0 0] 24)).cell? (ad.add (k * 3)) = some (.int .i64 ak) := (World.cell?_alloc_lt wr _ _ (World.block_lt_of_cell? wr _ e0)).trans e0
            have g1 : (wr.alloc (.cells #[.int .i64 0, .slice none 0 0] 24)).cell? ⟨(ad.add (k * 3)).block, (ad.add (k * 3)).off + 1, none⟩ = some (.int .i64 ai) := (World.cell?_alloc_lt wr _ _ (World.block_lt_of_cell? wr _ e1)).trans e1
            have g2 : (wr.alloc (.cells #[.int .i64 0, .slice none 0 0] 24)).cell? ⟨(ad.add (k * 3)).block, (ad.add (k * 3)).off + 2, none⟩ = some (.int .i64 an) := (World.cell?_alloc_lt wr _ _ (World.block_lt_of_cell? wr _ e2)).trans e2
            have g3 : (wr.alloc (.cells #[.int .i64 0, .slice none 0 0] 24)).cell? ⟨w.heap.size, 0, none⟩ = some (.int .i64 vn) := (World.cell?_alloc_lt wr _ _ (World.block_lt_of_cell? wr _ d0)).trans d0
            have g4 : (wr.alloc (.cells #[.int .i64 0, .slice none 0 0] 24)).cell? ⟨w.heap.size, 1, none⟩ = some (.slice V vl.length cv) := (World.cell?_alloc_lt wr _ _ (World.block_lt_of_cell? wr _ d1)).trans d1
            have HVLT := Lib.hid HV.out.lt
            have HL5 := Lib.hid (show w3.heap.size < wr.heap.size from (Array.getElem?_eq_some_iff.1 HP.out.h5).1)
            go_upto_region 9 with fail
            go_cut [7, 8] (fun s7 s8 W => ∃ bx X d, s7 = .pointer (some ⟨bx, 0, none⟩) ∧ s8 = .int .i64 E ∧ Xc wr w.heap.size bx yn X d yl W)
            case first =>
              go_region_law (first | (go_simp; go_at_call 14; (with_reducible refine (CD.out _ B0.out).mono ?_); rintro e w6 ⟨A6, c6, rfl, ho6, hb6⟩; have HO6 := Lib.hid ho6; have HB6 := Lib.hid (B0.out.trans (hb6.mono B0.out.size)); clear ho6 hb6) | (go_simp; go_at_call 14; (with_reducible refine (CD.out _ B1.out).mono ?_); rintro e w6 ⟨A6, c6, rfl, ho6, hb6⟩; have HO6 := Lib.hid ho6; have HB6 := Lib.hid (B1.out.trans (hb6.mono B1.out.size)); have z6 := (hb6.block wr.heap.size (by simp)).trans (World.alloc_heap_new wr (.cells #[.int .i64 0, .slice none 0 0] 24)); have HZ6 := Lib.hid z6; have r0 := c2_0 z6; have f0 := unfrozen z6 0; have r1 := c2_1 z6; have f1 := unfrozen z6 1; clear ho6 hb6 z6) | fail)
              all_goals
                go_wp2_with fail
                go_meet
                first | exact ⟨_, A6, c6, rfl, rfl, xc_b HVLT.out HO6.out HB6.out⟩ | exact ⟨_, A6, c6, rfl, rfl, xc_a HVLT.out HO6.out HB6.out HZ6.out⟩
            case rest =>
              obtain ⟨bx, X, d, rfl, rfl, hXC⟩ := hcut
              have HXC := Lib.hid hXC
              have HPC := Lib.hid (HP.out.next hXC.bw)
              have HBC := Lib.hid hXC.bw
              clear hXC d0 d1 e0 e1 e2 g0 g1 g2 g3 g4 B0 B1
              have HADB := Lib.hid (show ad.block < w.heap.size from hadb)
              have a0 : wc.cell? (ad.add (k * 3)) = some (.int .i64 ak) := (HBC.out.cell (World.block_lt_of_cell? wr _ E0.out)).trans E0.out
              have a1 : wc.cell? ⟨(ad.add (k * 3)).block, (ad.add (k * 3)).off + 1, none⟩ = some (.int .i64 ai) := (HBC.out.cell (World.block_lt_of_cell? wr _ E1.out)).trans E1.out
              have a2 : wc.cell? ⟨(ad.add (k * 3)).block, (ad.add (k * 3)).off + 2, none⟩ = some (.int .i64 an) := (HBC.out.cell (World.block_lt_of_cell? wr _ E2.out)).trans E2.out
              have HBY := Lib.hid (below_alloc wc (.cells #[.int .i64 0, .slice none 0 0] 30))
              have HZY := Lib.hid (World.alloc_heap_new wc (.cells #[.int .i64 0, .slice none 0 0] 30))
              have HSY := Lib.hid (show (wc.alloc (.cells #[.int .i64 0, .slice none 0 0] 30)).heap.size = wc.heap.size + 1 by simp)
              have HA0 := Lib.hid ((HBY.out.cell (World.block_lt_of_cell? wc _ a0)).trans a0)
              have HA1 := Lib.hid ((HBY.out.cell (World.block_lt_of_cell? wc _ a1)).trans a1)
              have HA2 := Lib.hid ((HBY.out.cell (World.block_lt_of_cell? wc _ a2)).trans a2)
              have HW1 := Lib.hid a1
              have HW2 := Lib.hid a2
              clear a0 a1 a2
              go_upto_region 11 with fail
              generalize wc.alloc (.cells #[.int .i64 0, .slice none 0 0] 30) = wy at HBY HZY HSY HA0 HA1 HA2 ⊢
              have HF := Lib.hid (show ∀ W : World, Below wc.heap.size wc W → W.cell? ⟨w3.heap.size, 0, none⟩ = some (.int .i64 vn) ∧ W.cell? ⟨w3.heap.size, 1, none⟩ = some (.slice D vl.length cd) ∧ W.cell? ⟨(ad.add (k * 3)).block, (ad.add (k * 3)).off + 1, none⟩ = some (.int .i64 ai) ∧ W.cell? ⟨(ad.add (k * 3)).block, (ad.add (k * 3)).off + 2, none⟩ = some (.int .i64 an) ∧ Below wc.heap.size wc W from fun W hb =>
                ⟨c2_0 (HPC.out.next hb).h5, c2_1 (HPC.out.next hb).h5, (hb.cell (World.block_lt_of_cell? wc _ HW1.out)).trans HW1.out, (hb.cell (World.block_lt_of_cell? wc _ HW2.out)).trans HW2.out, hb⟩)
              have q1 := HF.out wy.drew HBY.out.drew
              have a0 := HA0.out
              by_cases k0 : ak = 0
              · have k0' : (ak == 0) = true := by simpa using k0
                have CJ := Lib.hid (show ∀ W : World, Below wc.heap.size wc W → Calls Try.prog 15 #[.agg #[.int .i64 vn, .slice D vl.length cd], .int .i64 ai, .int .i64 an] W fun e w' => ∃ A6 c6, e = .returned (.tuple #[.agg #[.int .i64 yn, .slice A6 yl.length c6], .int .i64 E]) ∧ Lies w' w'.heap.size 2 A6 yl.length (mc yl) ∧ Below W.heap.size W w' from fun W hb => CJ.out W (HBC.out.trans (hb.mono HBC.out.size)) k0)
                clear k0
                go_upto_region 13 with fail
                go_region_held3 (fun w' => w'.cell? ⟨w3.heap.size, 0, none⟩ = some (.int .i64 vn) ∧ w'.cell? ⟨w3.heap.size, 1, none⟩ = some (.slice D vl.length cd) ∧ w'.cell? ⟨(ad.add (k * 3)).block, (ad.add (k * 3)).off + 1, none⟩ = some (.int .i64 ai) ∧ w'.cell? ⟨(ad.add (k * 3)).block, (ad.add (k * 3)).off + 2, none⟩ = some (.int .i64 an) ∧ Below wc.heap.size wc w')
                  (first | exact q1 | exact HF.out _ (below_set2 q1.2.2.2.2 (Nat.le_refl _) _ _))
                  (first | ((go_at_call 15); (with_reducible refine (CJ.out _ q1.2.2.2.2).mono ?_); rintro e w9 ⟨Y, yd, rfl, ho9, hb9⟩; have HK9 := Lib.hid ho9; have z9 := (hb9.block wc.heap.size (by show _ < wy.heap.size; rw [HSY.out]; omega)).trans HZY.out; have HZ9 := Lib.hid z9; have r0 := c2_0 z9; have f0 := unfrozen z9 0; have r1 := c2_1 z9; have f1 := unfrozen z9 1; have q1 := HF.out w9 (q1.2.2.2.2.trans (hb9.mono q1.2.2.2.2.size)); clear hb9 ho9 z9))
                all_goals
                  have HBZ := Lib.hid (below_set2 q1.2.2.2.2 (Nat.le_refl wc.heap.size) (.int .i64 yn) (.slice Y yl.length yd))
                  have HYZ := Lib.hid (set2_at HZ9.out (.int .i64 yn) (.slice Y yl.length yd))
                  have HLZ := Lib.hid (((lx_of HK9.out HZ9.out).set2 (.int .i64 yn) (.slice Y yl.length yd)).1)
                  clear r0 f0 r1 f1 q1 HZ9 HK9
                  go_upto_region 15 with fail
                  generalize (w9.setCell ⟨wc.heap.size, 0, none⟩ (.int .i64 yn)).setCell ⟨wc.heap.size, 1, none⟩ (.slice Y yl.length yd) = wz at HBZ HYZ HLZ ⊢
                  have HXZ := Lib.hid (HXC.out.next HBZ.out)
                  have HPZ := Lib.hid (HPC.out.next HBZ.out)
                  have HF2 := Lib.hid (show ∀ W : World, Below wz.heap.size wz W → W.cell? ⟨bx, 0, none⟩ = some (.int .i64 yn) ∧ W.cell? ⟨bx, 1, none⟩ = some (.slice X yl.length d) ∧ W.cell? ⟨wc.heap.size, 0, none⟩ = some (.int .i64 yn) ∧ W.cell? ⟨wc.heap.size, 1, none⟩ = some (.slice Y yl.length yd) ∧ Below wz.heap.size wz W from fun W hb =>
                    ⟨c2_0 (HXZ.out.next hb).hy, c2_1 (HXZ.out.next hb).hy, c2_0 ((hb.block _ (Array.getElem?_eq_some_iff.1 HYZ.out).1).trans HYZ.out), c2_1 ((hb.block _ (Array.getElem?_eq_some_iff.1 HYZ.out).1).trans HYZ.out), hb⟩)
                  have CAX := Lib.hid (show ∀ W : World, Below wz.heap.size wz W → Calls Try.prog 11 #[.agg #[.int .i64 yn, .slice X yl.length d]] W fun e w' => ∃ D f, e = .returned (.agg #[.int .i64 yn, .slice D yl.length f]) ∧ Lies w' w'.heap.size 2 D yl.length (mc yl) ∧ Below W.heap.size W w' from fun W hb =>
                    (as_any yn X d yl W (HXZ.out.next hb).ly.1 HLY.out).mono fun e w' ⟨D, f, h1, h2, h3⟩ => ⟨D, f, h1, Lies.of_own h2, h3⟩)
                  have CSM := Lib.hid (show ∀ (D : Option Addr) (f : Nat) (W : World), Below wz.heap.size wz W → Lies W W.heap.size 2 D yl.length (mc yl) → Calls Try.prog 17 #[.agg #[.int .i64 yn, .slice D yl.length f], .agg #[.int .i64 yn, .slice Y yl.length yd]] W fun e w' => e = .returned (.bool true) ∧ Below W.heap.size W w' from fun D f W hb h1 => by
                    have h := rsame_any yn D f yl yn Y yd yl W h1 (HLZ.out.next hb) (by have := HLY.out; omega) (by have := HLY.out; omega)
                    rw [show decide ((yn, yl) = (yn, yl)) = true from decide_eq_true rfl] at h
                    exact h)
                  have hEE : (E != E) = false := by simp
                  have q1 := HF2.out wz.drew (Below.refl _ _).drew
                  go_region_held3 (fun w' => w'.cell? ⟨bx, 0, none⟩ = some (.int .i64 yn) ∧ w'.cell? ⟨bx, 1, none⟩ = some (.slice X yl.length d) ∧ w'.cell? ⟨wc.heap.size, 0, none⟩ = some (.int .i64 yn) ∧ w'.cell? ⟨wc.heap.size, 1, none⟩ = some (.slice Y yl.length yd) ∧ Below wz.heap.size wz w')
                    (exact q1)
                    (first | ((go_at_call 11); (with_reducible refine (CAX.out _ q1.2.2.2.2).mono ?_); rintro e w9 ⟨D1, x1, rfl, ho9, hb9⟩; have K1 := Lib.hid ho9; clear ho9; have q1 := HF2.out w9 ((q1.2.2.2.2).trans (hb9.mono (q1.2.2.2.2).size)); clear hb9) | ((go_at_call 17); (with_reducible refine (CSM.out _ _ _ q1.2.2.2.2 K1.out).mono ?_); rintro e w9 ⟨rfl, hb9⟩; have q1 := HF2.out w9 ((q1.2.2.2.2).trans (hb9.mono (q1.2.2.2.2).size)); clear hb9))
                  all_goals
                    obtain ⟨x0, x1, y0, y1, hbq⟩ := q1
                    have HPQ := Lib.hid (HPZ.out.next hbq)
                    have HPS := Lib.hid (((HPQ.out.next (Below.refl _ w9).drew).set ((HXZ.out.next hbq).ly.1.drewN 1) ((HLZ.out.next hbq).drewN 1) HLY.out : Px w w3.heap.size yn yl X d Y yd _))
                    have HXQ := Lib.hid (HXZ.out.next hbq)
                    have d0 := c2_0 HPQ.out.v.h
                    have d1 := c2_1 HPQ.out.v.h
                    have f0 := unfrozen HPQ.out.v.h 0
                    have f1 := unfrozen HPQ.out.v.h 1
                    have h5' := set2_other (b := w.heap.size) HPQ.out.h5 (by have := HPQ.out.hb; omega) (.int .i64 yn) (.slice X yl.length d)
                    have s0 := c2_0 h5'
                    have s1 := c2_1 h5'
                    have sf0 := unfrozen h5' 0
                    have sf1 := unfrozen h5' 1
                    have hy9 := (hbq.block _ (Array.getElem?_eq_some_iff.1 HYZ.out).1).trans HYZ.out
                    have hy' := set2_other (b := w.heap.size) hy9 (by have h1 := HVLT.out; have h2 := HBC.out.size; omega) (.int .i64 yn) (.slice X yl.length d)
                    have t0 := c2_0 hy'
                    have t1 := c2_1 hy'
                    clear hbq h5' hy9 hy' hEE
                    go_upto_region 17 with fail
                    go_region
                    all_goals
                      go_wp2_with fail
                      go_roundw
                      case rel => exact ⟨k + 1, yn, yl, X, d, Y, yd, by go_num, by omega, by omega, HPS⟩
                      case measure => simp [intOf]; omega
              · have k0' : (ak == 0) = false := by simpa using k0
                have CL := Lib.hid (show ∀ W : World, Below wc.heap.size wc W → Calls Try.prog 16 #[.agg #[.int .i64 vn, .slice D vl.length cd], .int .i64 ai] W fun e w' => ∃ A6 c6, e = .returned (.tuple #[.agg #[.int .i64 yn, .slice A6 yl.length c6], .int .i64 E]) ∧ Lies w' w'.heap.size 2 A6 yl.length (mc yl) ∧ Below W.heap.size W w' from fun W hb => CL.out W (HBC.out.trans (hb.mono HBC.out.size)) k0)
                clear k0
                go_upto_region 14 with fail
                go_region_held3 (fun w' => w'.cell? ⟨w3.heap.size, 0, none⟩ = some (.int .i64 vn) ∧ w'.cell? ⟨w3.heap.size, 1, none⟩ = some (.slice D vl.length cd) ∧ w'.cell? ⟨(ad.add (k * 3)).block, (ad.add (k * 3)).off + 1, none⟩ = some (.int .i64 ai) ∧ w'.cell? ⟨(ad.add (k * 3)).block, (ad.add (k * 3)).off + 2, none⟩ = some (.int .i64 an) ∧ Below wc.heap.size wc w')
                  (first | exact q1 | exact HF.out _ (below_set2 q1.2.2.2.2 (Nat.le_refl _) _ _))
                  (first | ((go_at_call 16); (with_reducible refine (CL.out _ q1.2.2.2.2).mono ?_); rintro e w9 ⟨Y, yd, rfl, ho9, hb9⟩; have HK9 := Lib.hid ho9; have z9 := (hb9.block wc.heap.size (by show _ < wy.heap.size; rw [HSY.out]; omega)).trans HZY.out; have HZ9 := Lib.hid z9; have r0 := c2_0 z9; have f0 := unfrozen z9 0; have r1 := c2_1 z9; have f1 := unfrozen z9 1; have q1 := HF.out w9 (q1.2.2.2.2.trans (hb9.mono q1.2.2.2.2.size)); clear hb9 ho9 z9))
                all_goals
                  have HBZ := Lib.hid (below_set2 q1.2.2.2.2 (Nat.le_refl wc.heap.size) (.int .i64 yn) (.slice Y yl.length yd))
                  have HYZ := Lib.hid (set2_at HZ9.out (.int .i64 yn) (.slice Y yl.length yd))
                  have HLZ := Lib.hid (((lx_of HK9.out HZ9.out).set2 (.int .i64 yn) (.slice Y yl.length yd)).1)
                  clear r0 f0 r1 f1 q1 HZ9 HK9
                  go_upto_region 15 with fail
                  generalize (w9.setCell ⟨wc.heap.size, 0, none⟩ (.int .i64 yn)).setCell ⟨wc.heap.size, 1, none⟩ (.slice Y yl.length yd) = wz at HBZ HYZ HLZ ⊢
                  have HXZ := Lib.hid (HXC.out.next HBZ.out)
                  have HPZ := Lib.hid (HPC.out.next HBZ.out)
                  have HF2 := Lib.hid (show ∀ W : World, Below wz.heap.size wz W → W.cell? ⟨bx, 0, none⟩ = some (.int .i64 yn) ∧ W.cell? ⟨bx, 1, none⟩ = some (.slice X yl.length d) ∧ W.cell? ⟨wc.heap.size, 0, none⟩ = some (.int .i64 yn) ∧ W.cell? ⟨wc.heap.size, 1, none⟩ = some (.slice Y yl.length yd) ∧ Below wz.heap.size wz W from fun W hb =>
                    ⟨c2_0 (HXZ.out.next hb).hy, c2_1 (HXZ.out.next hb).hy, c2_0 ((hb.block _ (Array.getElem?_eq_some_iff.1 HYZ.out).1).trans HYZ.out), c2_1 ((hb.block _ (Array.getElem?_eq_some_iff.1 HYZ.out).1).trans HYZ.out), hb⟩)
                  have CAX := Lib.hid (show ∀ W : World, Below wz.heap.size wz W → Calls Try.prog 11 #[.agg #[.int .i64 yn, .slice X yl.length d]] W fun e w' => ∃ D f, e = .returned (.agg #[.int .i64 yn, .slice D yl.length f]) ∧ Lies w' w'.heap.size 2 D yl.length (mc yl) ∧ Below W.heap.size W w' from fun W hb =>
                    (as_any yn X d yl W (HXZ.out.next hb).ly.1 HLY.out).mono fun e w' ⟨D, f, h1, h2, h3⟩ => ⟨D, f, h1, Lies.of_own h2, h3⟩)
                  have CSM := Lib.hid (show ∀ (D : Option Addr) (f : Nat) (W : World), Below wz.heap.size wz W → Lies W W.heap.size 2 D yl.length (mc yl) → Calls Try.prog 17 #[.agg #[.int .i64 yn, .slice D yl.length f], .agg #[.int .i64 yn, .slice Y yl.length yd]] W fun e w' => e = .returned (.bool true) ∧ Below W.heap.size W w' from fun D f W hb h1 => by
                    have h := rsame_any yn D f yl yn Y yd yl W h1 (HLZ.out.next hb) (by have := HLY.out; omega) (by have := HLY.out; omega)
                    rw [show decide ((yn, yl) = (yn, yl)) = true from decide_eq_true rfl] at h
                    exact h)
                  have hEE : (E != E) = false := by simp
                  have q1 := HF2.out wz.drew (Below.refl _ _).drew
                  go_region_held3 (fun w' => w'.cell? ⟨bx, 0, none⟩ = some (.int .i64 yn) ∧ w'.cell? ⟨bx, 1, none⟩ = some (.slice X yl.length d) ∧ w'.cell? ⟨wc.heap.size, 0, none⟩ = some (.int .i64 yn) ∧ w'.cell? ⟨wc.heap.size, 1, none⟩ = some (.slice Y yl.length yd) ∧ Below wz.heap.size wz w')
                    (exact q1)
                    (first | ((go_at_call 11); (with_reducible refine (CAX.out _ q1.2.2.2.2).mono ?_); rintro e w9 ⟨D1, x1, rfl, ho9, hb9⟩; have K1 := Lib.hid ho9; clear ho9; have q1 := HF2.out w9 ((q1.2.2.2.2).trans (hb9.mono (q1.2.2.2.2).size)); clear hb9) | ((go_at_call 17); (with_reducible refine (CSM.out _ _ _ q1.2.2.2.2 K1.out).mono ?_); rintro e w9 ⟨rfl, hb9⟩; have q1 := HF2.out w9 ((q1.2.2.2.2).trans (hb9.mono (q1.2.2.2.2).size)); clear hb9))
                  all_goals
                    obtain ⟨x0, x1, y0, y1, hbq⟩ := q1
                    have HPQ := Lib.hid (HPZ.out.next hbq)
                    have HPS := Lib.hid (((HPQ.out.next (Below.refl _ w9).drew).set ((HXZ.out.next hbq).ly.1.drewN 1) ((HLZ.out.next hbq).drewN 1) HLY.out : Px w w3.heap.size yn yl X d Y yd _))
                    have HXQ := Lib.hid (HXZ.out.next hbq)
                    have d0 := c2_0 HPQ.out.v.h
                    have d1 := c2_1 HPQ.out.v.h
                    have f0 := unfrozen HPQ.out.v.h 0
                    have f1 := unfrozen HPQ.out.v.h 1
                    have h5' := set2_other (b := w.heap.size) HPQ.out.h5 (by have := HPQ.out.hb; omega) (.int .i64 yn) (.slice X yl.length d)
                    have s0 := c2_0 h5'
                    have s1 := c2_1 h5'
                    have sf0 := unfrozen h5' 0
                    have sf1 := unfrozen h5' 1
                    have hy9 := (hbq.block _ (Array.getElem?_eq_some_iff.1 HYZ.out).1).trans HYZ.out
                    have hy' := set2_other (b := w.heap.size) hy9 (by have h1 := HVLT.out; have h2 := HBC.out.size; omega) (.int .i64 yn) (.slice X yl.length d)
                    have t0 := c2_0 hy'
                    have t1 := c2_1 hy'
                    clear hbq h5' hy9 hy' hEE
                    go_upto_region 17 with fail
                    go_region
                    all_goals
                      go_wp2_with fail
                      go_roundw
                      case rel => exact ⟨k + 1, yn, yl, X, d, Y, yd, by go_num, by omega, by omega, HPS⟩
                      case measure => simp [intOf]; omega
          · have hkl : (k : Int) < (la.length : Int) := by omega
            have hk40' : ¬ (k : Int) < 40 := by omega
            clear d0 d1
            go_wp2_with fail
            refine (knows_any _).mono ?_
            rintro e w12 ⟨rfl, hb12⟩
            have HVK := Lib.hid (HV.out.next hb12)
            clear hb12
            go_wp2_with fail
            go_ret
            exact ⟨rfl, HVK.out.bl⟩
        · have hkl : ¬ (k : Int) < (la.length : Int) := by omega
          clear d0 d1
          go_wp2_with fail
          refine (knows_any _).mono ?_
          rintro e w12 ⟨rfl, hb12⟩
          have HVK := Lib.hid (HV.out.next hb12)
          clear hb12
          go_wp2_with fail
          go_ret
          exact ⟨rfl, HVK.out.bl⟩
end Go.Proofs.Ytemcmhpfpfmgdaa
