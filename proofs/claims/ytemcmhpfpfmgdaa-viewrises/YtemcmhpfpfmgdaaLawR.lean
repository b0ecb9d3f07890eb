import Derived.Test.YtemcmhpfpfmgdaaLawX
import Derived.Deep.RegionHeld3
/-
  The walk of ViewRises. No condition but that the numbers are of 64 bits.
-/
namespace Go.Proofs.Ytemcmhpfpfmgdaa
open Go.ChangeShapes Go.WideShapes Go.ChangeAt Go.RowKit Go.Maps
set_option linter.unusedVariables false

def RiRel2 (la : List Ac) (w : World) (i : Value) (W : World) : Prop := ∃ (k : Nat) (vn : Int) (V : Option Addr) (cv : Nat) (vl : List Mb), i = .int .i64 (k : Int) ∧ k ≤ la.length ∧ k ≤ 40 ∧ Hid (Vx w w.heap.size vn V cv vl W) ∧ Hid (rightV (vn, vl) = true)
set_option maxHeartbeats 4000000 in
set_option maxRecDepth 20000 in
theorem rises_walk (num : Int) (A : Option Addr) (c : Nat) (l : List Mb) (B : Option Addr) (cb : Nat) (la : List Ac) (w : World) (hA : Lies w w.heap.size 2 A l.length (mc l)) (hl : l.length ≤ maxLen) (hB : Lies w w.heap.size 3 B la.length (ac la)) (hla : la.length ≤ maxLen) (hwf : ∀ a ∈ la, (Lit.int .i64 a.2.1).wf = true) :
    Calls Try.prog 5 #[.agg #[.int .i64 num, .slice A l.length c], .slice B la.length cb] w fun e w' => e = .returned (.bool true) ∧ Below w.heap.size w w' := by
  have HA := Lib.hid hA
  have HB1 := Lib.hid (below_alloc w (.cells #[.int .i64 num, .slice A l.length c] 24))
  have h1 := World.alloc_heap_new w (.cells #[.int .i64 num, .slice A l.length c] 24)
  have HZ1 := Lib.hid (show w.heap.size < (w.alloc (.cells #[.int .i64 num, .slice A l.length c] 24)).heap.size by simp)
  have HL := Lib.hid hB
  clear hA hB
  go_enter Try.func5, Try.ntmps5
  go_upto_region 1 with fail
  generalize w.alloc (.cells #[.int .i64 num, .slice A l.length c] 24) = w1 at HB1 h1 HZ1 ⊢
  have d0 := c2_0 h1
  have d1 := c2_1 h1
  go_wp2_with fail
  refine (great_any num A c l.length _ hl).mono ?_
  rintro e w2 ⟨rfl, hb2⟩
  have HB := Lib.hid (HB1.out.trans (hb2.mono HB1.out.size))
  have H2 := Lib.hid ((hb2.block _ HZ1.out).trans h1)
  have HZ2 := Lib.hid (show w.heap.size < w2.heap.size from Nat.lt_of_lt_of_le HZ1.out hb2.size)
  clear d0 d1 h1 hb2
  have d0 := c2_0 H2.out
  have d1 := c2_1 H2.out
  have CG := Lib.hid (fun (W : World) => great_any num A c l.length W hl)
  by_cases hg : 50 < l.length
  · have hg' := decide_eq_true hg
    rw [hg'] at CG
    rw [hg']
    clear hg hg'
    go_wp2_with fail
    refine (CG.out _).mono ?_
    rintro e w3 ⟨rfl, hb3⟩
    have HB3 := Lib.hid (HB.out.trans (hb3.mono HB.out.size))
    clear hb3
    go_wp2_with fail
    go_ret
    exact ⟨rfl, HB3.out⟩
  · have hg' := decide_eq_false hg
    have hl50 : l.length ≤ 50 := by omega
    rw [hg'] at CG
    rw [hg']
    clear hg hg'
    have hla' : (la.length : Int) ≤ 9223372036854775807 := by unfold maxLen at hla; omega
    have HV2 := Lib.hid (show Vx w w.heap.size num A c l w2 from ⟨H2.out, Lx.of_low (HA.out.below HB.out) (Nat.le_refl _) HB.out.size, by omega, HB.out⟩)
    go_wp2_with fail
    refine (right_any num A c l _ HV2.out.l.1 (by omega)).mono ?_
    rintro e w4 ⟨rfl, hb4⟩
    have HV4 := Lib.hid (HV2.out.next hb4)
    have HB4 := Lib.hid (HB.out.trans (hb4.mono HB.out.size))
    clear hb4 d0 d1
    have d0 := c2_0 HV4.out.h
    have d1 := c2_1 HV4.out.h
    cases hq : rightV (num, l) with
    | false =>
      have HQ := Lib.hid hq
      clear hq
      go_wp2_with fail
      refine (CG.out _).mono ?_
      rintro e w5 ⟨rfl, hb5⟩
      have HV5 := Lib.hid (HV4.out.next hb5)
      clear hb5 d0 d1
      have d0 := c2_0 HV5.out.h
      have d1 := c2_1 HV5.out.h
      go_wp2_with fail
      refine (as_any num A c l _ HV5.out.l.1 (by omega)).mono ?_
      rintro e w6 ⟨A2, c2, rfl, ho6, hb6⟩
      simp only at ho6
      have HO6 := Lib.hid ho6
      have HV6 := Lib.hid (HV5.out.next hb6)
      clear ho6 hb6 d0 d1
      go_wp2_with fail
      refine (rright_any num A2 c2 l _ (Lies.of_own HO6.out) (by omega)).mono ?_
      rintro e w7 ⟨rfl, hb7⟩
      rw [HQ.out]
      have HV7 := Lib.hid (HV6.out.next hb7)
      clear hb7
      go_wp2_with fail
      refine (knows_any _).mono ?_
      rintro e w12 ⟨rfl, hb12⟩
      have HVK := Lib.hid (HV7.out.next hb12)
      clear hb12
      go_wp2_with fail
      go_ret
      exact ⟨rfl, HVK.out.bl⟩
    | true =>
      have HQ := Lib.hid hq
      clear hq
      go_wp2_with fail
      go_loopw [5, 6, 7] (fun i _ _ W => RiRel2 la w i W) (fun i _ _ W => 41 - (intOf i).toNat)
      case atStart => exact ⟨0, num, A, c, l, rfl, Nat.zero_le _, Nat.zero_le _, HV4, HQ⟩
      case round =>
        clear d0 d1
        obtain ⟨k, vn, V, cv, vl, rfl, hk, hk40, HV, HRR⟩ := hrel
        have d0 := c2_0 HV.out.h
        have d1 := c2_1 HV.out.h
        by_cases hlt : k < la.length
        · by_cases h40 : k < 40
          · obtain ⟨ad, rfl, hadb, e0, e1, e2⟩ := (HL.out.below HV.out.bl).ac k hlt
            have hkl : (k : Int) < (la.length : Int) := by omega
            have hk40' : (k : Int) < 40 := by omega
            have HWA := Lib.hid (hwf _ (aAt_mem la k hlt))
            obtain ⟨a, ha⟩ : ∃ a, a = aAt la k := ⟨_, rfl⟩
            rw [← ha] at HWA e0 e1 e2
            clear ha
            obtain ⟨ak, ai, an⟩ := a
            simp only at e0 e1 e2
            have CD := Lib.hid (do_any vn V cv vl ak ai an wr (HV.out.l.1) (by have := HV.out.n; omega) HWA.out)
            have CD := Lib.hid (show ∀ W : World, Below wr.heap.size wr W → Calls Try.prog 14 #[.agg #[.int .i64 vn, .slice V vl.length cv], .agg #[.int .i64 ak, .int .i64 ai, .int .i64 an]] W (EPost (actG (good (vn, vl)) ak ai an) (actE (good (vn, vl)) ak ai an) 59 W) from fun W hb => do_any vn V cv vl ak ai an W (HV.out.next hb).l.1 (by have := HV.out.n; omega) HWA.out)
            rw [good_eq HRR.out] at CD
            have HRX := Lib.hid (act_right HRR.out ak ai an)
            have HLN := Lib.hid (act_len HRR.out ak ai an)
            have HAN := Lib.hid (act_num (g := (vn, vl)) ak ai an)
            obtain ⟨y, hy⟩ : ∃ y, y = actG (vn, vl) ak ai an := ⟨_, rfl⟩
            rw [← hy] at HRX HLN CD HAN
            clear hy
            obtain ⟨E, hE⟩ : ∃ E, E = actE (vn, vl) ak ai an := ⟨_, rfl⟩
            rw [← hE] at CD HAN
            clear hE
            obtain ⟨yn, yl⟩ := y
            have CD := Lib.hid (show ∀ W : World, Below wr.heap.size wr W → Calls Try.prog 14 #[.agg #[.int .i64 vn, .slice V vl.length cv], .agg #[.int .i64 ak, .int .i64 ai, .int .i64 an]] W fun e w' => ∃ A6 c6, e = .returned (.tuple #[.agg #[.int .i64 yn, .slice A6 yl.length c6], .int .i64 E]) ∧ w'.ownsRow W.heap.size 59 2 (.slice A6 yl.length c6) yl.length (mc yl) ∧ Below W.heap.size W w' from CD.out)
            have B0 := Lib.hid (show Below wr.heap.size wr wr.drew from (Below.refl _ _).drew)
            have B1 := Lib.hid (show Below wr.heap.size wr (wr.alloc (.cells #[.int .i64 0, .slice none 0 0] 24)).drew from (below_alloc wr _).drew)
            have a0 := (Below.refl wr.heap.size wr)
            have g0 : (wr.alloc (.cells #[.int .i64 0, .slice none 0 0] 24)).cell? (ad.add (k * 3)) = some (.int .i64 ak) := (World.cell?_alloc_lt wr _ _ (World.block_lt_of_cell? wr _ e0)).trans e0
            have g1 : (wr.alloc (.cells #[.int .i64 0, .slice none 0 0] 24)).cell? ⟨(ad.add (k * 3)).block, (ad.add (k * 3)).off + 1, none⟩ = some (.int .i64 ai) := (World.cell?_alloc_lt wr _ _ (World.block_lt_of_cell? wr _ e1)).trans e1
            have g2 : (wr.alloc (.cells #[.int .i64 0, .slice none 0 0] 24)).cell? ⟨(ad.add (k * 3)).block, (ad.add (k * 3)).off + 2, none⟩ = some (.int .i64 an) := (World.cell?_alloc_lt wr _ _ (World.block_lt_of_cell? wr _ e2)).trans e2
            have g3 : (wr.alloc (.cells #[.int .i64 0, .slice none 0 0] 24)).cell? ⟨w.heap.size, 0, none⟩ = some (.int .i64 vn) := (World.cell?_alloc_lt wr _ _ (World.block_lt_of_cell? wr _ d0)).trans d0
            have g4 : (wr.alloc (.cells #[.int .i64 0, .slice none 0 0] 24)).cell? ⟨w.heap.size, 1, none⟩ = some (.slice V vl.length cv) := (World.cell?_alloc_lt wr _ _ (World.block_lt_of_cell? wr _ d1)).trans d1
            have HVLT := Lib.hid HV.out.lt
            go_upto_region 6 with fail
            go_cut [6, 7] (fun s6 s7 W => ∃ bx X d, s6 = .pointer (some ⟨bx, 0, none⟩) ∧ s7 = .int .i64 E ∧ Xc wr w.heap.size bx yn X d yl W)
            case first =>
              go_region_law (first | (go_simp; go_at_call 14; (with_reducible refine (CD.out _ B0.out).mono ?_); rintro e w6 ⟨A6, c6, rfl, ho6, hb6⟩; have HO6 := Lib.hid ho6; have HB6 := Lib.hid (B0.out.trans (hb6.mono B0.out.size)); clear ho6 hb6) | (go_simp; go_at_call 14; (with_reducible refine (CD.out _ B1.out).mono ?_); rintro e w6 ⟨A6, c6, rfl, ho6, hb6⟩; have HO6 := Lib.hid ho6; have HB6 := Lib.hid (B1.out.trans (hb6.mono B1.out.size)); have z6 := (hb6.block wr.heap.size (by simp)).trans (World.alloc_heap_new wr (.cells #[.int .i64 0, .slice none 0 0] 24)); have HZ6 := Lib.hid z6; have r0 := c2_0 z6; have f0 := unfrozen z6 0; have r1 := c2_1 z6; have f1 := unfrozen z6 1; clear ho6 hb6 z6) | fail)
              all_goals
                go_wp2_with fail
                go_meet
                first | exact ⟨_, A6, c6, rfl, rfl, xc_b HVLT.out HO6.out HB6.out⟩ | exact ⟨_, A6, c6, rfl, rfl, xc_a HVLT.out HO6.out HB6.out HZ6.out⟩
            case rest =>
              obtain ⟨bx, X, d, rfl, rfl, hXC⟩ := hcut
              have HXC := Lib.hid hXC
              have HVC := Lib.hid (HV.out.next hXC.bw)
              have HYR := Lib.hid HRX.out
              clear hXC d0 d1 e0 e1 e2 g0 g1 g2 g3 g4 a0 B0 B1
              have HF := Lib.hid (show ∀ W : World, Below wc.heap.size wc W → W.cell? ⟨w.heap.size, 0, none⟩ = some (.int .i64 vn) ∧ W.cell? ⟨w.heap.size, 1, none⟩ = some (.slice V vl.length cv) ∧ W.cell? ⟨bx, 0, none⟩ = some (.int .i64 yn) ∧ W.cell? ⟨bx, 1, none⟩ = some (.slice X yl.length d) ∧ Below wc.heap.size wc W from fun W hb =>
                ⟨c2_0 (HVC.out.next hb).h, c2_1 (HVC.out.next hb).h, c2_0 (HXC.out.next hb).hy, c2_1 (HXC.out.next hb).hy, hb⟩)
              have C12 := Lib.hid (show ∀ W : World, Below wc.heap.size wc W → Calls Try.prog 12 #[.agg #[.int .i64 yn, .slice X yl.length d]] W fun e w' => e = .returned (.bool true) ∧ Below W.heap.size W w' from fun W hb => by
                have h := right_any yn X d yl W (HXC.out.next hb).ly.1 (by have h : yl.length ≤ 1000 := HLN.out; omega)
                rw [HYR.out] at h
                exact h)
              have C13 := Lib.hid (show ∀ (Z : Option Addr) (z : Nat) (W : World), Lies W W.heap.size 2 Z yl.length (mc yl) → Calls Try.prog 13 #[.agg #[.int .i64 yn, .slice Z yl.length z]] W fun e w' => e = .returned (.bool true) ∧ Below W.heap.size W w' from fun Z z W hL => by
                have h := rright_any yn Z z yl W hL (by have h : yl.length ≤ 1000 := HLN.out; omega)
                rw [HYR.out] at h
                exact h)
              have CAX := Lib.hid (show ∀ W : World, Below wc.heap.size wc W → Calls Try.prog 11 #[.agg #[.int .i64 yn, .slice X yl.length d]] W fun e w' => ∃ D f, e = .returned (.agg #[.int .i64 yn, .slice D yl.length f]) ∧ Lies w' w'.heap.size 2 D yl.length (mc yl) ∧ Below W.heap.size W w' from fun W hb =>
                (as_any yn X d yl W (HXC.out.next hb).ly.1 HLN.out).mono fun e w' ⟨D, f, h1, h2, h3⟩ => ⟨D, f, h1, Lies.of_own h2, h3⟩)
              have CAV := Lib.hid (show ∀ W : World, Below wc.heap.size wc W → Calls Try.prog 11 #[.agg #[.int .i64 vn, .slice V vl.length cv]] W fun e w' => ∃ D f, e = .returned (.agg #[.int .i64 vn, .slice D vl.length f]) ∧ Lies w' w'.heap.size 2 D vl.length (mc vl) ∧ Below W.heap.size W w' from fun W hb =>
                (as_any vn V cv vl W (HVC.out.next hb).l.1 HV.out.n).mono fun e w' ⟨D, f, h1, h2, h3⟩ => ⟨D, f, h1, Lies.of_own h2, h3⟩)
              have q1 := HF.out wc.drew (Below.refl _ _).drew
              by_cases hE0 : E = 0
              · have hyn : yn = vn + 1 := (HAN.out.1 hE0)
                have hwr : IntKind.i64.wrap (vn + 1) = vn + 1 := by have := right_num HRR.out; simp [IntKind.wrap, IntKind.bits, IntKind.signed]; omega
                subst hE0
                subst hyn
                go_wp2_with fail
                refine wp_region_held_drew (S := (fun w' => w'.cell? ⟨w.heap.size, 0, none⟩ = some (.int .i64 vn) ∧ w'.cell? ⟨w.heap.size, 1, none⟩ = some (.slice V vl.length cv) ∧ w'.cell? ⟨bx, 0, none⟩ = some (.int .i64 (vn + 1)) ∧ w'.cell? ⟨bx, 1, none⟩ = some (.slice X yl.length d) ∧ Below wc.heap.size wc w')) (by kernel_rfl) ?_ (fun hHeld => ?_)
                · exact q1
                refine wpAnyH_take (i := 0) (oi := { dst := some 45, op := Op.move (Operand.tmp 7), type := 33, pos := "law.go:85", after := #[], guard := none }) (v := ?_) rfl (by kernel_rfl) (by kernel_rfl) (by kernel_rfl) (fun _ _ _ h => h) (Or.inl ⟨by rfl, ?_⟩) (by assumption) ?_
                rotate_left 1
                · intro w hSw; (try dsimp only at hSw); go_simp; (try with_reducible rfl)
                (try simp only [Act.put, List.setIfInBounds_toArray, List.set_cons_zero, List.set_cons_succ])
                refine wpAnyH_take (i := 1) (oi := { dst := some 46, op := Op.binOp BinOp.eql 33 (Operand.tmp 45) (Operand.const (Value.int IntKind.i64 0)) 33, type := 4, pos := "law.go:85", after := #[{ on := 0, ground := Ground.data }], guard := none }) (v := ?_) rfl (by kernel_rfl) (by kernel_rfl) (by kernel_rfl) (fun _ _ _ h => h) (Or.inl ⟨by rfl, ?_⟩) (by assumption) ?_
                rotate_left 1
                · intro w hSw; (try dsimp only at hSw); go_simp; (try with_reducible rfl)
                (try simp only [Act.put, List.setIfInBounds_toArray, List.set_cons_zero, List.set_cons_succ])
                refine wpAnyH_take (i := 2) (oi := { dst := some 47, op := Op.move (Operand.tmp 46), type := 4, pos := "law.go:85", after := #[{ on := 1, ground := Ground.data }], guard := none }) (v := ?_) rfl (by kernel_rfl) (by kernel_rfl) (by kernel_rfl) (fun _ _ _ h => h) (Or.inl ⟨by rfl, ?_⟩) (by assumption) ?_
                rotate_left 1
                · intro w hSw; (try dsimp only at hSw); go_simp; (try with_reducible rfl)
                (try simp only [Act.put, List.setIfInBounds_toArray, List.set_cons_zero, List.set_cons_succ])
                refine wpAnyH_take (i := 3) (oi := { dst := some 48, op := Op.fieldAddr 24 (Operand.tmp 6) 0, type := 0, pos := "law.go:85", after := #[{ on := 2, ground := Ground.guard }], guard := some (2, true) }) (v := ?_) rfl (by kernel_rfl) (by kernel_rfl) (by kernel_rfl) (fun _ _ _ h => h) (Or.inl ⟨by rfl, ?_⟩) (by assumption) ?_
                rotate_left 1
                · intro w hSw; (try dsimp only at hSw); go_simp; (try with_reducible rfl)
                (try simp only [Act.put, List.setIfInBounds_toArray, List.set_cons_zero, List.set_cons_succ])
                refine wpAnyH_take (i := 4) (oi := { dst := some 49, op := Op.load 3 (Operand.tmp 48), type := 3, pos := "law.go:85", after := #[{ on := 3, ground := Ground.data }, { on := 2, ground := Ground.guard }], guard := some (2, true) }) (v := ?_) rfl (by kernel_rfl) (by kernel_rfl) (by kernel_rfl) (fun _ _ _ h => h) (Or.inl ⟨by rfl, ?_⟩) (by assumption) ?_
                rotate_left 1
                · intro w hSw; (try dsimp only at hSw); go_simp; (try with_reducible rfl)
                (try simp only [Act.put, List.setIfInBounds_toArray, List.set_cons_zero, List.set_cons_succ])
                refine wpAnyH_take (i := 5) (oi := { dst := some 50, op := Op.fieldAddr 24 (Operand.tmp 2) 0, type := 0, pos := "law.go:85", after := #[{ on := 2, ground := Ground.guard }], guard := some (2, true) }) (v := ?_) rfl (by kernel_rfl) (by kernel_rfl) (by kernel_rfl) (fun _ _ _ h => h) (Or.inl ⟨by rfl, ?_⟩) (by assumption) ?_
                rotate_left 1
                · intro w hSw; (try dsimp only at hSw); go_simp; (try with_reducible rfl)
                (try simp only [Act.put, List.setIfInBounds_toArray, List.set_cons_zero, List.set_cons_succ])
                refine wpAnyH_take (i := 6) (oi := { dst := some 51, op := Op.load 3 (Operand.tmp 50), type := 3, pos := "law.go:85", after := #[{ on := 5, ground := Ground.data }, { on := 2, ground := Ground.guard }], guard := some (2, true) }) (v := ?_) rfl (by kernel_rfl) (by kernel_rfl) (by kernel_rfl) (fun _ _ _ h => h) (Or.inl ⟨by rfl, ?_⟩) (by assumption) ?_
                rotate_left 1
                · intro w hSw; (try dsimp only at hSw); go_simp; (try with_reducible rfl)
                (try simp only [Act.put, List.setIfInBounds_toArray, List.set_cons_zero, List.set_cons_succ])
                refine wpAnyH_take (i := 7) (oi := { dst := some 52, op := Op.binOp BinOp.add 3 (Operand.tmp 51) (Operand.const (Value.int IntKind.i64 1)) 3, type := 3, pos := "law.go:85", after := #[{ on := 6, ground := Ground.data }, { on := 2, ground := Ground.guard }], guard := some (2, true) }) (v := ?_) rfl (by kernel_rfl) (by kernel_rfl) (by kernel_rfl) (fun _ _ _ h => h) (Or.inl ⟨by rfl, ?_⟩) (by assumption) ?_
                rotate_left 1
                · intro w hSw; (try dsimp only at hSw); go_simp; (try with_reducible rfl)
                (try simp only [Act.put, List.setIfInBounds_toArray, List.set_cons_zero, List.set_cons_succ])
                refine wpAnyH_take (i := 8) (oi := { dst := some 53, op := Op.binOp BinOp.neq 3 (Operand.tmp 49) (Operand.tmp 52) 3, type := 4, pos := "law.go:85", after := #[{ on := 4, ground := Ground.data }, { on := 7, ground := Ground.data }, { on := 2, ground := Ground.guard }], guard := some (2, true) }) (v := ?_) rfl (by kernel_rfl) (by kernel_rfl) (by kernel_rfl) (fun _ _ _ h => h) (Or.inl ⟨by rfl, ?_⟩) (by assumption) ?_
                rotate_left 1
                · intro w hSw; (try dsimp only at hSw); go_simp; (try with_reducible rfl)
                (try simp only [Act.put, List.setIfInBounds_toArray, List.set_cons_zero, List.set_cons_succ])
                refine wpAnyH_take (i := 9) (oi := { dst := some 54, op := Op.pick (Operand.tmp 47) (Operand.tmp 53) (Operand.const (Value.bool false)), type := 4, pos := "law.go:85", after := #[{ on := 2, ground := Ground.data }, { on := 8, ground := Ground.data }], guard := none }) (v := ?_) rfl (by kernel_rfl) (by kernel_rfl) (by kernel_rfl) (fun _ _ _ h => h) (Or.inl ⟨by rfl, ?_⟩) (by assumption) ?_
                rotate_left 1
                · intro w hSw; (try dsimp only at hSw); go_simp; (try with_reducible rfl)
                (try simp only [Act.put, List.setIfInBounds_toArray, List.set_cons_zero, List.set_cons_succ])
                refine wpAnyH_take (i := 10) (oi := { dst := some 55, op := Op.move (Operand.tmp 54), type := 4, pos := "law.go:85", after := #[{ on := 9, ground := Ground.data }, { on := 2, ground := Ground.chain }], guard := none }) (v := ?_) rfl (by kernel_rfl) (by kernel_rfl) (by kernel_rfl) (fun _ _ _ h => h) (Or.inl ⟨by rfl, ?_⟩) (by assumption) ?_
                rotate_left 1
                · intro w hSw; (try dsimp only at hSw); go_simp; (try with_reducible rfl)
                (try simp only [Act.put, List.setIfInBounds_toArray, List.set_cons_zero, List.set_cons_succ])
                refine wpAnyH_take (i := 11) (oi := { dst := some 56, op := Op.move (Operand.tmp 7), type := 33, pos := "law.go:85", after := #[{ on := 10, ground := Ground.guard }], guard := some (10, false) }) (v := ?_) rfl (by kernel_rfl) (by kernel_rfl) (by kernel_rfl) (fun _ _ _ h => h) (Or.inl ⟨by rfl, ?_⟩) (by assumption) ?_
                rotate_left 1
                · intro w hSw; (try dsimp only at hSw); go_simp; (try with_reducible rfl)
                (try simp only [Act.put, List.setIfInBounds_toArray, List.set_cons_zero, List.set_cons_succ])
                refine wpAnyH_take (i := 12) (oi := { dst := some 57, op := Op.binOp BinOp.neq 33 (Operand.tmp 56) (Operand.const (Value.int IntKind.i64 0)) 33, type := 4, pos := "law.go:85", after := #[{ on := 11, ground := Ground.data }, { on := 10, ground := Ground.guard }], guard := some (10, false) }) (v := ?_) rfl (by kernel_rfl) (by kernel_rfl) (by kernel_rfl) (fun _ _ _ h => h) (Or.inl ⟨by rfl, ?_⟩) (by assumption) ?_
                rotate_left 1
                · intro w hSw; (try dsimp only at hSw); go_simp; (try with_reducible rfl)
                (try simp only [Act.put, List.setIfInBounds_toArray, List.set_cons_zero, List.set_cons_succ])
                refine wpAnyH_take (i := 13) (oi := { dst := some 58, op := Op.move (Operand.tmp 57), type := 4, pos := "law.go:85", after := #[{ on := 12, ground := Ground.data }, { on := 10, ground := Ground.chain }, { on := 10, ground := Ground.guard }], guard := some (10, false) }) (v := ?_) rfl (by kernel_rfl) (by kernel_rfl) (by kernel_rfl) (fun _ _ _ h => h) (Or.inl ⟨by rfl, ?_⟩) (by assumption) ?_
                rotate_left 1
                · intro w hSw; (try dsimp only at hSw); go_simp; (try with_reducible rfl)
                (try simp only [Act.put, List.setIfInBounds_toArray, List.set_cons_zero, List.set_cons_succ])
                refine wpAnyH_take (i := 14) (oi := { dst := some 59, op := Op.load 24 (Operand.tmp 6), type := 24, pos := "law.go:85", after := #[{ on := 13, ground := Ground.guard }], guard := some (13, true) }) (v := undef) rfl (by kernel_rfl) (by kernel_rfl) (by kernel_rfl) (fun _ _ _ h => h) (Or.inr ⟨by rfl, rfl⟩) (by assumption) ?_
                (try simp only [Act.put, List.setIfInBounds_toArray, List.set_cons_zero, List.set_cons_succ])
                refine wpAnyH_take (i := 15) (oi := { dst := some 60, op := Op.call { callee := Callee.value (Operand.func 11), args := #[Operand.tmp 59], argTypes := #[24] }, type := 30, pos := "law.go:85", after := #[{ on := 14, ground := Ground.data }, { on := 13, ground := Ground.chain }, { on := 13, ground := Ground.guard }], guard := some (13, true) }) (v := undef) rfl (by kernel_rfl) (by kernel_rfl) (by kernel_rfl) (fun _ _ _ h => h) (Or.inr ⟨by rfl, rfl⟩) (by assumption) ?_
                (try simp only [Act.put, List.setIfInBounds_toArray, List.set_cons_zero, List.set_cons_succ])
                refine wpAnyH_take (i := 16) (oi := { dst := some 61, op := Op.load 24 (Operand.tmp 2), type := 24, pos := "law.go:85", after := #[{ on := 13, ground := Ground.guard }], guard := some (13, true) }) (v := undef) rfl (by kernel_rfl) (by kernel_rfl) (by kernel_rfl) (fun _ _ _ h => h) (Or.inr ⟨by rfl, rfl⟩) (by assumption) ?_
                (try simp only [Act.put, List.setIfInBounds_toArray, List.set_cons_zero, List.set_cons_succ])
                refine wpAnyH_take (i := 17) (oi := { dst := some 62, op := Op.call { callee := Callee.value (Operand.func 11), args := #[Operand.tmp 61], argTypes := #[24] }, type := 30, pos := "law.go:85", after := #[{ on := 16, ground := Ground.data }, { on := 15, ground := Ground.chain }, { on := 13, ground := Ground.guard }], guard := some (13, true) }) (v := undef) rfl (by kernel_rfl) (by kernel_rfl) (by kernel_rfl) (fun _ _ _ h => h) (Or.inr ⟨by rfl, rfl⟩) (by assumption) ?_
                (try simp only [Act.put, List.setIfInBounds_toArray, List.set_cons_zero, List.set_cons_succ])
                refine wpAnyH_take (i := 18) (oi := { dst := some 63, op := Op.call { callee := Callee.value (Operand.func 17), args := #[Operand.tmp 60, Operand.tmp 62], argTypes := #[30, 30] }, type := 4, pos := "law.go:85", after := #[{ on := 15, ground := Ground.data }, { on := 17, ground := Ground.data }, { on := 17, ground := Ground.chain }, { on := 13, ground := Ground.guard }], guard := some (13, true) }) (v := undef) rfl (by kernel_rfl) (by kernel_rfl) (by kernel_rfl) (fun _ _ _ h => h) (Or.inr ⟨by rfl, rfl⟩) (by assumption) ?_
                (try simp only [Act.put, List.setIfInBounds_toArray, List.set_cons_zero, List.set_cons_succ])
                refine wpAnyH_take (i := 19) (oi := { dst := some 64, op := Op.unOp UnOp.not 4 (Operand.tmp 63), type := 4, pos := "law.go:85", after := #[{ on := 18, ground := Ground.data }, { on := 13, ground := Ground.guard }], guard := some (13, true) }) (v := undef) rfl (by kernel_rfl) (by kernel_rfl) (by kernel_rfl) (fun _ _ _ h => h) (Or.inr ⟨by rfl, rfl⟩) (by assumption) ?_
                (try simp only [Act.put, List.setIfInBounds_toArray, List.set_cons_zero, List.set_cons_succ])
                refine wpAnyH_take (i := 20) (oi := { dst := some 65, op := Op.pick (Operand.tmp 58) (Operand.tmp 64) (Operand.const (Value.bool false)), type := 4, pos := "law.go:85", after := #[{ on := 13, ground := Ground.data }, { on := 19, ground := Ground.data }, { on := 10, ground := Ground.guard }], guard := some (10, false) }) (v := ?_) rfl (by kernel_rfl) (by kernel_rfl) (by kernel_rfl) (fun _ _ _ h => h) (Or.inl ⟨by rfl, ?_⟩) (by assumption) ?_
                rotate_left 1
                · intro w hSw; (try dsimp only at hSw); go_simp; (try with_reducible rfl)
                (try simp only [Act.put, List.setIfInBounds_toArray, List.set_cons_zero, List.set_cons_succ])
                refine wpAnyH_take (i := 21) (oi := { dst := some 66, op := Op.pick (Operand.tmp 55) (Operand.const (Value.bool true)) (Operand.tmp 65), type := 4, pos := "law.go:85", after := #[{ on := 10, ground := Ground.data }, { on := 20, ground := Ground.data }], guard := none }) (v := ?_) rfl (by kernel_rfl) (by kernel_rfl) (by kernel_rfl) (fun _ _ _ h => h) (Or.inl ⟨by rfl, ?_⟩) (by assumption) ?_
                rotate_left 1
                · intro w hSw; (try dsimp only at hSw); go_simp; (try with_reducible rfl)
                (try simp only [Act.put, List.setIfInBounds_toArray, List.set_cons_zero, List.set_cons_succ])
                refine wpAnyH_take (i := 22) (oi := { dst := some 67, op := Op.move (Operand.tmp 66), type := 4, pos := "law.go:85", after := #[{ on := 21, ground := Ground.data }, { on := 18, ground := Ground.chain }], guard := none }) (v := ?_) rfl (by kernel_rfl) (by kernel_rfl) (by kernel_rfl) (fun _ _ _ h => h) (Or.inl ⟨by rfl, ?_⟩) (by assumption) ?_
                rotate_left 1
                · intro w hSw; (try dsimp only at hSw); go_simp; (try with_reducible rfl)
                (try simp only [Act.put, List.setIfInBounds_toArray, List.set_cons_zero, List.set_cons_succ])
                refine wpAnyH_take (i := 23) (oi := { dst := some 68, op := Op.load 24 (Operand.tmp 6), type := 24, pos := "law.go:85", after := #[{ on := 22, ground := Ground.guard }], guard := some (22, false) }) (v := ?_) rfl (by kernel_rfl) (by kernel_rfl) (by kernel_rfl) (fun _ _ _ h => h) (Or.inl ⟨by rfl, ?_⟩) (by assumption) ?_
                rotate_left 1
                · intro w hSw; (try dsimp only at hSw); go_simp; (try with_reducible rfl)
                (try simp only [Act.put, List.setIfInBounds_toArray, List.set_cons_zero, List.set_cons_succ])
                refine wpAnyH_ready (rs := [24]) (by kernel_rfl) (by simp) ?_
                refine AllReadyH.cons (o := { dst := some 69, op := Op.call { callee := Callee.value (Operand.func 12), args := #[Operand.tmp 68], argTypes := #[24] }, type := 4, pos := "law.go:85", after := #[{ on := 23, ground := Ground.data }, { on := 22, ground := Ground.chain }, { on := 22, ground := Ground.guard }], guard := some (22, false) }) rfl (fun K hK => ?_) AllReadyH.nil
                go_simp
                go_at_call 12
                (with_reducible refine (C12.out _ q1.2.2.2.2).mono ?_)
                rintro e w9 ⟨rfl, hb9⟩
                have q1 := HF.out w9 ((q1.2.2.2.2).trans (hb9.mono (q1.2.2.2.2).size))
                clear hb9
                (try go_simp)
                refine hK.out _ _ ?_ (fun hHeld => ?_)
                · exact q1
                clear hK K
                (try simp only [Act.put, List.setIfInBounds_toArray, List.set_cons_zero, List.set_cons_succ])
                refine wpAnyH_take (i := 25) (oi := { dst := some 70, op := Op.unOp UnOp.not 4 (Operand.tmp 69), type := 4, pos := "law.go:85", after := #[{ on := 24, ground := Ground.data }, { on := 22, ground := Ground.guard }], guard := some (22, false) }) (v := ?_) rfl (by kernel_rfl) (by kernel_rfl) (by kernel_rfl) (fun _ _ _ h => h) (Or.inl ⟨by rfl, ?_⟩) (by assumption) ?_
                rotate_left 1
                · intro w hSw; (try dsimp only at hSw); go_simp; (try with_reducible rfl)
                (try simp only [Act.put, List.setIfInBounds_toArray, List.set_cons_zero, List.set_cons_succ])
                refine wpAnyH_take (i := 26) (oi := { dst := some 71, op := Op.pick (Operand.tmp 67) (Operand.const (Value.bool true)) (Operand.tmp 70), type := 4, pos := "law.go:85", after := #[{ on := 22, ground := Ground.data }, { on := 25, ground := Ground.data }], guard := none }) (v := ?_) rfl (by kernel_rfl) (by kernel_rfl) (by kernel_rfl) (fun _ _ _ h => h) (Or.inl ⟨by rfl, ?_⟩) (by assumption) ?_
                rotate_left 1
                · intro w hSw; (try dsimp only at hSw); go_simp; (try with_reducible rfl)
                (try simp only [Act.put, List.setIfInBounds_toArray, List.set_cons_zero, List.set_cons_succ])
                refine wpAnyH_take (i := 27) (oi := { dst := some 72, op := Op.move (Operand.tmp 71), type := 4, pos := "law.go:85", after := #[{ on := 26, ground := Ground.data }, { on := 24, ground := Ground.chain }], guard := none }) (v := ?_) rfl (by kernel_rfl) (by kernel_rfl) (by kernel_rfl) (fun _ _ _ h => h) (Or.inl ⟨by rfl, ?_⟩) (by assumption) ?_
                rotate_left 1
                · intro w hSw; (try dsimp only at hSw); go_simp; (try with_reducible rfl)
                (try simp only [Act.put, List.setIfInBounds_toArray, List.set_cons_zero, List.set_cons_succ])
                refine wpAnyH_take (i := 28) (oi := { dst := some 73, op := Op.load 24 (Operand.tmp 6), type := 24, pos := "law.go:85", after := #[{ on := 27, ground := Ground.guard }], guard := some (27, false) }) (v := ?_) rfl (by kernel_rfl) (by kernel_rfl) (by kernel_rfl) (fun _ _ _ h => h) (Or.inl ⟨by rfl, ?_⟩) (by assumption) ?_
                rotate_left 1
                · intro w hSw; (try dsimp only at hSw); go_simp; (try with_reducible rfl)
                (try simp only [Act.put, List.setIfInBounds_toArray, List.set_cons_zero, List.set_cons_succ])
                refine wpAnyH_ready (rs := [29]) (by kernel_rfl) (by simp) ?_
                refine AllReadyH.cons (o := { dst := some 74, op := Op.call { callee := Callee.value (Operand.func 11), args := #[Operand.tmp 73], argTypes := #[24] }, type := 30, pos := "law.go:85", after := #[{ on := 28, ground := Ground.data }, { on := 27, ground := Ground.chain }, { on := 27, ground := Ground.guard }], guard := some (27, false) }) rfl (fun K hK => ?_) AllReadyH.nil
                go_simp
                go_at_call 11
                (with_reducible refine (CAX.out _ q1.2.2.2.2).mono ?_)
                rintro e w9 ⟨D1, x1, rfl, ho9, hb9⟩
                have K1 := Lib.hid ho9
                clear ho9
                have q1 := HF.out w9 ((q1.2.2.2.2).trans (hb9.mono (q1.2.2.2.2).size))
                clear hb9
                (try go_simp)
                refine hK.out _ _ ?_ (fun hHeld => ?_)
                · exact q1
                clear hK K
                (try simp only [Act.put, List.setIfInBounds_toArray, List.set_cons_zero, List.set_cons_succ])
                refine wpAnyH_ready (rs := [30]) (by kernel_rfl) (by simp) ?_
                refine AllReadyH.cons (o := { dst := some 75, op := Op.call { callee := Callee.value (Operand.func 13), args := #[Operand.tmp 74], argTypes := #[30] }, type := 4, pos := "law.go:85", after := #[{ on := 29, ground := Ground.data }, { on := 29, ground := Ground.chain }, { on := 27, ground := Ground.guard }], guard := some (27, false) }) rfl (fun K hK => ?_) AllReadyH.nil
                go_simp
                go_at_call 13
                (with_reducible refine (C13.out _ _ _ K1.out).mono ?_)
                rintro e w9 ⟨rfl, hb9⟩
                have q1 := HF.out w9 ((q1.2.2.2.2).trans (hb9.mono (q1.2.2.2.2).size))
                clear hb9
                (try go_simp)
                refine hK.out _ _ ?_ (fun hHeld => ?_)
                · exact q1
                clear hK K
                (try simp only [Act.put, List.setIfInBounds_toArray, List.set_cons_zero, List.set_cons_succ])
                refine wpAnyH_take (i := 31) (oi := { dst := some 76, op := Op.unOp UnOp.not 4 (Operand.tmp 75), type := 4, pos := "law.go:85", after := #[{ on := 30, ground := Ground.data }, { on := 27, ground := Ground.guard }], guard := some (27, false) }) (v := ?_) rfl (by kernel_rfl) (by kernel_rfl) (by kernel_rfl) (fun _ _ _ h => h) (Or.inl ⟨by rfl, ?_⟩) (by assumption) ?_
                rotate_left 1
                · intro w hSw; (try dsimp only at hSw); go_simp; (try with_reducible rfl)
                (try simp only [Act.put, List.setIfInBounds_toArray, List.set_cons_zero, List.set_cons_succ])
                refine wpAnyH_take (i := 32) (oi := { dst := some 77, op := Op.pick (Operand.tmp 72) (Operand.const (Value.bool true)) (Operand.tmp 76), type := 4, pos := "law.go:85", after := #[{ on := 27, ground := Ground.data }, { on := 31, ground := Ground.data }], guard := none }) (v := ?_) rfl (by kernel_rfl) (by kernel_rfl) (by kernel_rfl) (fun _ _ _ h => h) (Or.inl ⟨by rfl, ?_⟩) (by assumption) ?_
                rotate_left 1
                · intro w hSw; (try dsimp only at hSw); go_simp; (try with_reducible rfl)
                (try simp only [Act.put, List.setIfInBounds_toArray, List.set_cons_zero, List.set_cons_succ])
                refine wpAnyH_done (by kernel_rfl) ?_ _
                all_goals
                  obtain ⟨d0, d1, x0, x1, hbq⟩ := q1
                  have HXS := Lib.hid (HXC.out.next hbq)
                  have HVS := Lib.hid (HVC.out.next hbq)
                  have HSET := Lib.hid (HVS.out.set (Nat.le_refl _) (vn + 1) X d yl HXS.out.ly HLN.out)
                  have f0 := unfrozen HVS.out.h 0
                  have f1 := unfrozen HVS.out.h 1
                  clear hbq
                  go_wp2_with fail
                  go_roundw
                  case rel => exact ⟨k + 1, _, X, d, yl, by go_num, by omega, by omega, HSET, HYR⟩
                  case measure => simp [intOf]; omega
              · have hyv := HAN.out.2 hE0
                have h1 := (Prod.mk.inj hyv).1
                have h2 := (Prod.mk.inj hyv).2
                have hE1 : (E == 0) = false := by simpa using hE0
                have hE2 : (E != 0) = true := by simpa using hE0
                have C17 := Lib.hid (show ∀ (D : Option Addr) (f : Nat) (F : Option Addr) (g : Nat) (W : World), Lies W W.heap.size 2 D yl.length (mc yl) → Lies W W.heap.size 2 F vl.length (mc vl) → Calls Try.prog 17 #[.agg #[.int .i64 yn, .slice D yl.length f], .agg #[.int .i64 vn, .slice F vl.length g]] W fun e w' => e = .returned (.bool true) ∧ Below W.heap.size W w' from fun D f F g W k1 k2 => by
                  have h := rsame_any yn D f yl vn F g vl W k1 k2 (by have h : yl.length ≤ 1000 := HLN.out; omega) (by have := HV.out.n; omega)
                  rw [show decide ((yn, yl) = (vn, vl)) = true from decide_eq_true hyv] at h
                  exact h)
                clear hE0 hyv h1 h2
                go_wp2_with fail
                refine wp_region_held_drew (S := (fun w' => w'.cell? ⟨w.heap.size, 0, none⟩ = some (.int .i64 vn) ∧ w'.cell? ⟨w.heap.size, 1, none⟩ = some (.slice V vl.length cv) ∧ w'.cell? ⟨bx, 0, none⟩ = some (.int .i64 yn) ∧ w'.cell? ⟨bx, 1, none⟩ = some (.slice X yl.length d) ∧ Below wc.heap.size wc w')) (by kernel_rfl) ?_ (fun hHeld => ?_)
                · exact q1
                refine wpAnyH_take (i := 0) (oi := { dst := some 45, op := Op.move (Operand.tmp 7), type := 33, pos := "law.go:85", after := #[], guard := none }) (v := ?_) rfl (by kernel_rfl) (by kernel_rfl) (by kernel_rfl) (fun _ _ _ h => h) (Or.inl ⟨by rfl, ?_⟩) (by assumption) ?_
                rotate_left 1
                · intro w hSw; (try dsimp only at hSw); go_simp; (try with_reducible rfl)
                (try simp only [Act.put, List.setIfInBounds_toArray, List.set_cons_zero, List.set_cons_succ])
                refine wpAnyH_take (i := 1) (oi := { dst := some 46, op := Op.binOp BinOp.eql 33 (Operand.tmp 45) (Operand.const (Value.int IntKind.i64 0)) 33, type := 4, pos := "law.go:85", after := #[{ on := 0, ground := Ground.data }], guard := none }) (v := ?_) rfl (by kernel_rfl) (by kernel_rfl) (by kernel_rfl) (fun _ _ _ h => h) (Or.inl ⟨by rfl, ?_⟩) (by assumption) ?_
                rotate_left 1
                · intro w hSw; (try dsimp only at hSw); go_simp; (try with_reducible rfl)
                (try simp only [Act.put, List.setIfInBounds_toArray, List.set_cons_zero, List.set_cons_succ])
                refine wpAnyH_take (i := 2) (oi := { dst := some 47, op := Op.move (Operand.tmp 46), type := 4, pos := "law.go:85", after := #[{ on := 1, ground := Ground.data }], guard := none }) (v := ?_) rfl (by kernel_rfl) (by kernel_rfl) (by kernel_rfl) (fun _ _ _ h => h) (Or.inl ⟨by rfl, ?_⟩) (by assumption) ?_
                rotate_left 1
                · intro w hSw; (try dsimp only at hSw); go_simp; (try with_reducible rfl)
                (try simp only [Act.put, List.setIfInBounds_toArray, List.set_cons_zero, List.set_cons_succ])
                refine wpAnyH_take (i := 3) (oi := { dst := some 48, op := Op.fieldAddr 24 (Operand.tmp 6) 0, type := 0, pos := "law.go:85", after := #[{ on := 2, ground := Ground.guard }], guard := some (2, true) }) (v := undef) rfl (by kernel_rfl) (by kernel_rfl) (by kernel_rfl) (fun _ _ _ h => h) (Or.inr ⟨by rfl, rfl⟩) (by assumption) ?_
                (try simp only [Act.put, List.setIfInBounds_toArray, List.set_cons_zero, List.set_cons_succ])
                refine wpAnyH_take (i := 4) (oi := { dst := some 49, op := Op.load 3 (Operand.tmp 48), type := 3, pos := "law.go:85", after := #[{ on := 3, ground := Ground.data }, { on := 2, ground := Ground.guard }], guard := some (2, true) }) (v := undef) rfl (by kernel_rfl) (by kernel_rfl) (by kernel_rfl) (fun _ _ _ h => h) (Or.inr ⟨by rfl, rfl⟩) (by assumption) ?_
                (try simp only [Act.put, List.setIfInBounds_toArray, List.set_cons_zero, List.set_cons_succ])
                refine wpAnyH_take (i := 5) (oi := { dst := some 50, op := Op.fieldAddr 24 (Operand.tmp 2) 0, type := 0, pos := "law.go:85", after := #[{ on := 2, ground := Ground.guard }], guard := some (2, true) }) (v := undef) rfl (by kernel_rfl) (by kernel_rfl) (by kernel_rfl) (fun _ _ _ h => h) (Or.inr ⟨by rfl, rfl⟩) (by assumption) ?_
                (try simp only [Act.put, List.setIfInBounds_toArray, List.set_cons_zero, List.set_cons_succ])
                refine wpAnyH_take (i := 6) (oi := { dst := some 51, op := Op.load 3 (Operand.tmp 50), type := 3, pos := "law.go:85", after := #[{ on := 5, ground := Ground.data }, { on := 2, ground := Ground.guard }], guard := some (2, true) }) (v := undef) rfl (by kernel_rfl) (by kernel_rfl) (by kernel_rfl) (fun _ _ _ h => h) (Or.inr ⟨by rfl, rfl⟩) (by assumption) ?_
                (try simp only [Act.put, List.setIfInBounds_toArray, List.set_cons_zero, List.set_cons_succ])
                refine wpAnyH_take (i := 7) (oi := { dst := some 52, op := Op.binOp BinOp.add 3 (Operand.tmp 51) (Operand.const (Value.int IntKind.i64 1)) 3, type := 3, pos := "law.go:85", after := #[{ on := 6, ground := Ground.data }, { on := 2, ground := Ground.guard }], guard := some (2, true) }) (v := undef) rfl (by kernel_rfl) (by kernel_rfl) (by kernel_rfl) (fun _ _ _ h => h) (Or.inr ⟨by rfl, rfl⟩) (by assumption) ?_
                (try simp only [Act.put, List.setIfInBounds_toArray, List.set_cons_zero, List.set_cons_succ])
                refine wpAnyH_take (i := 8) (oi := { dst := some 53, op := Op.binOp BinOp.neq 3 (Operand.tmp 49) (Operand.tmp 52) 3, type := 4, pos := "law.go:85", after := #[{ on := 4, ground := Ground.data }, { on := 7, ground := Ground.data }, { on := 2, ground := Ground.guard }], guard := some (2, true) }) (v := undef) rfl (by kernel_rfl) (by kernel_rfl) (by kernel_rfl) (fun _ _ _ h => h) (Or.inr ⟨by rfl, rfl⟩) (by assumption) ?_
                (try simp only [Act.put, List.setIfInBounds_toArray, List.set_cons_zero, List.set_cons_succ])
                refine wpAnyH_take (i := 9) (oi := { dst := some 54, op := Op.pick (Operand.tmp 47) (Operand.tmp 53) (Operand.const (Value.bool false)), type := 4, pos := "law.go:85", after := #[{ on := 2, ground := Ground.data }, { on := 8, ground := Ground.data }], guard := none }) (v := ?_) rfl (by kernel_rfl) (by kernel_rfl) (by kernel_rfl) (fun _ _ _ h => h) (Or.inl ⟨by rfl, ?_⟩) (by assumption) ?_
                rotate_left 1
                · intro w hSw; (try dsimp only at hSw); go_simp; (try with_reducible rfl)
                (try simp only [Act.put, List.setIfInBounds_toArray, List.set_cons_zero, List.set_cons_succ])
                refine wpAnyH_take (i := 10) (oi := { dst := some 55, op := Op.move (Operand.tmp 54), type := 4, pos := "law.go:85", after := #[{ on := 9, ground := Ground.data }, { on := 2, ground := Ground.chain }], guard := none }) (v := ?_) rfl (by kernel_rfl) (by kernel_rfl) (by kernel_rfl) (fun _ _ _ h => h) (Or.inl ⟨by rfl, ?_⟩) (by assumption) ?_
                rotate_left 1
                · intro w hSw; (try dsimp only at hSw); go_simp; (try with_reducible rfl)
                (try simp only [Act.put, List.setIfInBounds_toArray, List.set_cons_zero, List.set_cons_succ])
                refine wpAnyH_take (i := 11) (oi := { dst := some 56, op := Op.move (Operand.tmp 7), type := 33, pos := "law.go:85", after := #[{ on := 10, ground := Ground.guard }], guard := some (10, false) }) (v := ?_) rfl (by kernel_rfl) (by kernel_rfl) (by kernel_rfl) (fun _ _ _ h => h) (Or.inl ⟨by rfl, ?_⟩) (by assumption) ?_
                rotate_left 1
                · intro w hSw; (try dsimp only at hSw); go_simp; (try with_reducible rfl)
                (try simp only [Act.put, List.setIfInBounds_toArray, List.set_cons_zero, List.set_cons_succ])
                refine wpAnyH_take (i := 12) (oi := { dst := some 57, op := Op.binOp BinOp.neq 33 (Operand.tmp 56) (Operand.const (Value.int IntKind.i64 0)) 33, type := 4, pos := "law.go:85", after := #[{ on := 11, ground := Ground.data }, { on := 10, ground := Ground.guard }], guard := some (10, false) }) (v := ?_) rfl (by kernel_rfl) (by kernel_rfl) (by kernel_rfl) (fun _ _ _ h => h) (Or.inl ⟨by rfl, ?_⟩) (by assumption) ?_
                rotate_left 1
                · intro w hSw; (try dsimp only at hSw); go_simp; (try with_reducible rfl)
                (try simp only [Act.put, List.setIfInBounds_toArray, List.set_cons_zero, List.set_cons_succ])
                refine wpAnyH_take (i := 13) (oi := { dst := some 58, op := Op.move (Operand.tmp 57), type := 4, pos := "law.go:85", after := #[{ on := 12, ground := Ground.data }, { on := 10, ground := Ground.chain }, { on := 10, ground := Ground.guard }], guard := some (10, false) }) (v := ?_) rfl (by kernel_rfl) (by kernel_rfl) (by kernel_rfl) (fun _ _ _ h => h) (Or.inl ⟨by rfl, ?_⟩) (by assumption) ?_
                rotate_left 1
                · intro w hSw; (try dsimp only at hSw); go_simp; (try with_reducible rfl)
                (try simp only [Act.put, List.setIfInBounds_toArray, List.set_cons_zero, List.set_cons_succ])
                refine wpAnyH_take (i := 14) (oi := { dst := some 59, op := Op.load 24 (Operand.tmp 6), type := 24, pos := "law.go:85", after := #[{ on := 13, ground := Ground.guard }], guard := some (13, true) }) (v := ?_) rfl (by kernel_rfl) (by kernel_rfl) (by kernel_rfl) (fun _ _ _ h => h) (Or.inl ⟨by rfl, ?_⟩) (by assumption) ?_
                rotate_left 1
                · intro w hSw; (try dsimp only at hSw); go_simp; (try with_reducible rfl)
                (try simp only [Act.put, List.setIfInBounds_toArray, List.set_cons_zero, List.set_cons_succ])
                refine wpAnyH_take (i := 16) (oi := { dst := some 61, op := Op.load 24 (Operand.tmp 2), type := 24, pos := "law.go:85", after := #[{ on := 13, ground := Ground.guard }], guard := some (13, true) }) (v := ?_) rfl (by kernel_rfl) (by kernel_rfl) (by kernel_rfl) (fun _ _ _ h => h) (Or.inl ⟨by rfl, ?_⟩) (by assumption) ?_
                rotate_left 1
                · intro w hSw; (try dsimp only at hSw); go_simp; (try with_reducible rfl)
                (try simp only [Act.put, List.setIfInBounds_toArray, List.set_cons_zero, List.set_cons_succ])
                refine wpAnyH_ready (rs := [15]) (by kernel_rfl) (by simp) ?_
                refine AllReadyH.cons (o := { dst := some 60, op := Op.call { callee := Callee.value (Operand.func 11), args := #[Operand.tmp 59], argTypes := #[24] }, type := 30, pos := "law.go:85", after := #[{ on := 14, ground := Ground.data }, { on := 13, ground := Ground.chain }, { on := 13, ground := Ground.guard }], guard := some (13, true) }) rfl (fun K hK => ?_) AllReadyH.nil
                go_simp
                go_at_call 11
                (with_reducible refine (CAX.out _ q1.2.2.2.2).mono ?_)
                rintro e w9 ⟨D1, x1, rfl, ho9, hb9⟩
                have K1 := Lib.hid ho9
                clear ho9
                have q1 := HF.out w9 ((q1.2.2.2.2).trans (hb9.mono (q1.2.2.2.2).size))
                clear hb9
                (try go_simp)
                refine hK.out _ _ ?_ (fun hHeld => ?_)
                · exact q1
                clear hK K
                (try simp only [Act.put, List.setIfInBounds_toArray, List.set_cons_zero, List.set_cons_succ])
                refine wpAnyH_ready (rs := [17]) (by kernel_rfl) (by simp) ?_
                refine AllReadyH.cons (o := { dst := some 62, op := Op.call { callee := Callee.value (Operand.func 11), args := #[Operand.tmp 61], argTypes := #[24] }, type := 30, pos := "law.go:85", after := #[{ on := 16, ground := Ground.data }, { on := 15, ground := Ground.chain }, { on := 13, ground := Ground.guard }], guard := some (13, true) }) rfl (fun K hK => ?_) AllReadyH.nil
                go_simp
                go_at_call 11
                (with_reducible refine (CAV.out _ q1.2.2.2.2).mono ?_)
                rintro e w9 ⟨D2, x2, rfl, ho9, hb9⟩
                have K2 := Lib.hid ho9
                have K1 := Lib.hid (K1.out.next hb9)
                clear ho9
                have q1 := HF.out w9 ((q1.2.2.2.2).trans (hb9.mono (q1.2.2.2.2).size))
                clear hb9
                (try go_simp)
                refine hK.out _ _ ?_ (fun hHeld => ?_)
                · exact q1
                clear hK K
                (try simp only [Act.put, List.setIfInBounds_toArray, List.set_cons_zero, List.set_cons_succ])
                refine wpAnyH_ready (rs := [18]) (by kernel_rfl) (by simp) ?_
                refine AllReadyH.cons (o := { dst := some 63, op := Op.call { callee := Callee.value (Operand.func 17), args := #[Operand.tmp 60, Operand.tmp 62], argTypes := #[30, 30] }, type := 4, pos := "law.go:85", after := #[{ on := 15, ground := Ground.data }, { on := 17, ground := Ground.data }, { on := 17, ground := Ground.chain }, { on := 13, ground := Ground.guard }], guard := some (13, true) }) rfl (fun K hK => ?_) AllReadyH.nil
                go_simp
                go_at_call 17
                (with_reducible refine (C17.out _ _ _ _ _ K1.out K2.out).mono ?_)
                rintro e w9 ⟨rfl, hb9⟩
                have q1 := HF.out w9 ((q1.2.2.2.2).trans (hb9.mono (q1.2.2.2.2).size))
                clear hb9
                (try go_simp)
                refine hK.out _ _ ?_ (fun hHeld => ?_)
                · exact q1
                clear hK K
                (try simp only [Act.put, List.setIfInBounds_toArray, List.set_cons_zero, List.set_cons_succ])
                refine wpAnyH_take (i := 19) (oi := { dst := some 64, op := Op.unOp UnOp.not 4 (Operand.tmp 63), type := 4, pos := "law.go:85", after := #[{ on := 18, ground := Ground.data }, { on := 13, ground := Ground.guard }], guard := some (13, true) }) (v := ?_) rfl (by kernel_rfl) (by kernel_rfl) (by kernel_rfl) (fun _ _ _ h => h) (Or.inl ⟨by rfl, ?_⟩) (by assumption) ?_
                rotate_left 1
                · intro w hSw; (try dsimp only at hSw); go_simp; (try with_reducible rfl)
                (try simp only [Act.put, List.setIfInBounds_toArray, List.set_cons_zero, List.set_cons_succ])
                refine wpAnyH_take (i := 20) (oi := { dst := some 65, op := Op.pick (Operand.tmp 58) (Operand.tmp 64) (Operand.const (Value.bool false)), type := 4, pos := "law.go:85", after := #[{ on := 13, ground := Ground.data }, { on := 19, ground := Ground.data }, { on := 10, ground := Ground.guard }], guard := some (10, false) }) (v := ?_) rfl (by kernel_rfl) (by kernel_rfl) (by kernel_rfl) (fun _ _ _ h => h) (Or.inl ⟨by rfl, ?_⟩) (by assumption) ?_
                rotate_left 1
                · intro w hSw; (try dsimp only at hSw); go_simp; (try with_reducible rfl)
                (try simp only [Act.put, List.setIfInBounds_toArray, List.set_cons_zero, List.set_cons_succ])
                refine wpAnyH_take (i := 21) (oi := { dst := some 66, op := Op.pick (Operand.tmp 55) (Operand.const (Value.bool true)) (Operand.tmp 65), type := 4, pos := "law.go:85", after := #[{ on := 10, ground := Ground.data }, { on := 20, ground := Ground.data }], guard := none }) (v := ?_) rfl (by kernel_rfl) (by kernel_rfl) (by kernel_rfl) (fun _ _ _ h => h) (Or.inl ⟨by rfl, ?_⟩) (by assumption) ?_
                rotate_left 1
                · intro w hSw; (try dsimp only at hSw); go_simp; (try with_reducible rfl)
                (try simp only [Act.put, List.setIfInBounds_toArray, List.set_cons_zero, List.set_cons_succ])
                refine wpAnyH_take (i := 22) (oi := { dst := some 67, op := Op.move (Operand.tmp 66), type := 4, pos := "law.go:85", after := #[{ on := 21, ground := Ground.data }, { on := 18, ground := Ground.chain }], guard := none }) (v := ?_) rfl (by kernel_rfl) (by kernel_rfl) (by kernel_rfl) (fun _ _ _ h => h) (Or.inl ⟨by rfl, ?_⟩) (by assumption) ?_
                rotate_left 1
                · intro w hSw; (try dsimp only at hSw); go_simp; (try with_reducible rfl)
                (try simp only [Act.put, List.setIfInBounds_toArray, List.set_cons_zero, List.set_cons_succ])
                refine wpAnyH_take (i := 23) (oi := { dst := some 68, op := Op.load 24 (Operand.tmp 6), type := 24, pos := "law.go:85", after := #[{ on := 22, ground := Ground.guard }], guard := some (22, false) }) (v := ?_) rfl (by kernel_rfl) (by kernel_rfl) (by kernel_rfl) (fun _ _ _ h => h) (Or.inl ⟨by rfl, ?_⟩) (by assumption) ?_
                rotate_left 1
                · intro w hSw; (try dsimp only at hSw); go_simp; (try with_reducible rfl)
                (try simp only [Act.put, List.setIfInBounds_toArray, List.set_cons_zero, List.set_cons_succ])
                refine wpAnyH_ready (rs := [24]) (by kernel_rfl) (by simp) ?_
                refine AllReadyH.cons (o := { dst := some 69, op := Op.call { callee := Callee.value (Operand.func 12), args := #[Operand.tmp 68], argTypes := #[24] }, type := 4, pos := "law.go:85", after := #[{ on := 23, ground := Ground.data }, { on := 22, ground := Ground.chain }, { on := 22, ground := Ground.guard }], guard := some (22, false) }) rfl (fun K hK => ?_) AllReadyH.nil
                go_simp
                go_at_call 12
                (with_reducible refine (C12.out _ q1.2.2.2.2).mono ?_)
                rintro e w9 ⟨rfl, hb9⟩
                have q1 := HF.out w9 ((q1.2.2.2.2).trans (hb9.mono (q1.2.2.2.2).size))
                clear hb9
                (try go_simp)
                refine hK.out _ _ ?_ (fun hHeld => ?_)
                · exact q1
                clear hK K
                (try simp only [Act.put, List.setIfInBounds_toArray, List.set_cons_zero, List.set_cons_succ])
                refine wpAnyH_take (i := 25) (oi := { dst := some 70, op := Op.unOp UnOp.not 4 (Operand.tmp 69), type := 4, pos := "law.go:85", after := #[{ on := 24, ground := Ground.data }, { on := 22, ground := Ground.guard }], guard := some (22, false) }) (v := ?_) rfl (by kernel_rfl) (by kernel_rfl) (by kernel_rfl) (fun _ _ _ h => h) (Or.inl ⟨by rfl, ?_⟩) (by assumption) ?_
                rotate_left 1
                · intro w hSw; (try dsimp only at hSw); go_simp; (try with_reducible rfl)
                (try simp only [Act.put, List.setIfInBounds_toArray, List.set_cons_zero, List.set_cons_succ])
                refine wpAnyH_take (i := 26) (oi := { dst := some 71, op := Op.pick (Operand.tmp 67) (Operand.const (Value.bool true)) (Operand.tmp 70), type := 4, pos := "law.go:85", after := #[{ on := 22, ground := Ground.data }, { on := 25, ground := Ground.data }], guard := none }) (v := ?_) rfl (by kernel_rfl) (by kernel_rfl) (by kernel_rfl) (fun _ _ _ h => h) (Or.inl ⟨by rfl, ?_⟩) (by assumption) ?_
                rotate_left 1
                · intro w hSw; (try dsimp only at hSw); go_simp; (try with_reducible rfl)
                (try simp only [Act.put, List.setIfInBounds_toArray, List.set_cons_zero, List.set_cons_succ])
                refine wpAnyH_take (i := 27) (oi := { dst := some 72, op := Op.move (Operand.tmp 71), type := 4, pos := "law.go:85", after := #[{ on := 26, ground := Ground.data }, { on := 24, ground := Ground.chain }], guard := none }) (v := ?_) rfl (by kernel_rfl) (by kernel_rfl) (by kernel_rfl) (fun _ _ _ h => h) (Or.inl ⟨by rfl, ?_⟩) (by assumption) ?_
                rotate_left 1
                · intro w hSw; (try dsimp only at hSw); go_simp; (try with_reducible rfl)
                (try simp only [Act.put, List.setIfInBounds_toArray, List.set_cons_zero, List.set_cons_succ])
                refine wpAnyH_take (i := 28) (oi := { dst := some 73, op := Op.load 24 (Operand.tmp 6), type := 24, pos := "law.go:85", after := #[{ on := 27, ground := Ground.guard }], guard := some (27, false) }) (v := ?_) rfl (by kernel_rfl) (by kernel_rfl) (by kernel_rfl) (fun _ _ _ h => h) (Or.inl ⟨by rfl, ?_⟩) (by assumption) ?_
                rotate_left 1
                · intro w hSw; (try dsimp only at hSw); go_simp; (try with_reducible rfl)
                (try simp only [Act.put, List.setIfInBounds_toArray, List.set_cons_zero, List.set_cons_succ])
                refine wpAnyH_ready (rs := [29]) (by kernel_rfl) (by simp) ?_
                refine AllReadyH.cons (o := { dst := some 74, op := Op.call { callee := Callee.value (Operand.func 11), args := #[Operand.tmp 73], argTypes := #[24] }, type := 30, pos := "law.go:85", after := #[{ on := 28, ground := Ground.data }, { on := 27, ground := Ground.chain }, { on := 27, ground := Ground.guard }], guard := some (27, false) }) rfl (fun K hK => ?_) AllReadyH.nil
                go_simp
                go_at_call 11
                (with_reducible refine (CAX.out _ q1.2.2.2.2).mono ?_)
                rintro e w9 ⟨D1, x1, rfl, ho9, hb9⟩
                have K1 := Lib.hid ho9
                clear ho9
                have q1 := HF.out w9 ((q1.2.2.2.2).trans (hb9.mono (q1.2.2.2.2).size))
                clear hb9
                (try go_simp)
                refine hK.out _ _ ?_ (fun hHeld => ?_)
                · exact q1
                clear hK K
                (try simp only [Act.put, List.setIfInBounds_toArray, List.set_cons_zero, List.set_cons_succ])
                refine wpAnyH_ready (rs := [30]) (by kernel_rfl) (by simp) ?_
                refine AllReadyH.cons (o := { dst := some 75, op := Op.call { callee := Callee.value (Operand.func 13), args := #[Operand.tmp 74], argTypes := #[30] }, type := 4, pos := "law.go:85", after := #[{ on := 29, ground := Ground.data }, { on := 29, ground := Ground.chain }, { on := 27, ground := Ground.guard }], guard := some (27, false) }) rfl (fun K hK => ?_) AllReadyH.nil
                go_simp
                go_at_call 13
                (with_reducible refine (C13.out _ _ _ K1.out).mono ?_)
                rintro e w9 ⟨rfl, hb9⟩
                have q1 := HF.out w9 ((q1.2.2.2.2).trans (hb9.mono (q1.2.2.2.2).size))
                clear hb9
                (try go_simp)
                refine hK.out _ _ ?_ (fun hHeld => ?_)
                · exact q1
                clear hK K
                (try simp only [Act.put, List.setIfInBounds_toArray, List.set_cons_zero, List.set_cons_succ])
                refine wpAnyH_take (i := 31) (oi := { dst := some 76, op := Op.unOp UnOp.not 4 (Operand.tmp 75), type := 4, pos := "law.go:85", after := #[{ on := 30, ground := Ground.data }, { on := 27, ground := Ground.guard }], guard := some (27, false) }) (v := ?_) rfl (by kernel_rfl) (by kernel_rfl) (by kernel_rfl) (fun _ _ _ h => h) (Or.inl ⟨by rfl, ?_⟩) (by assumption) ?_
                rotate_left 1
                · intro w hSw; (try dsimp only at hSw); go_simp; (try with_reducible rfl)
                (try simp only [Act.put, List.setIfInBounds_toArray, List.set_cons_zero, List.set_cons_succ])
                refine wpAnyH_take (i := 32) (oi := { dst := some 77, op := Op.pick (Operand.tmp 72) (Operand.const (Value.bool true)) (Operand.tmp 76), type := 4, pos := "law.go:85", after := #[{ on := 27, ground := Ground.data }, { on := 31, ground := Ground.data }], guard := none }) (v := ?_) rfl (by kernel_rfl) (by kernel_rfl) (by kernel_rfl) (fun _ _ _ h => h) (Or.inl ⟨by rfl, ?_⟩) (by assumption) ?_
                rotate_left 1
                · intro w hSw; (try dsimp only at hSw); go_simp; (try with_reducible rfl)
                (try simp only [Act.put, List.setIfInBounds_toArray, List.set_cons_zero, List.set_cons_succ])
                refine wpAnyH_done (by kernel_rfl) ?_ _
                all_goals
                  obtain ⟨d0, d1, x0, x1, hbq⟩ := q1
                  have HXS := Lib.hid (HXC.out.next hbq)
                  have HVS := Lib.hid (HVC.out.next hbq)
                  have HSET := Lib.hid (HVS.out.set (Nat.le_refl _) yn X d yl HXS.out.ly HLN.out)
                  have f0 := unfrozen HVS.out.h 0
                  have f1 := unfrozen HVS.out.h 1
                  clear hbq
                  go_wp2_with fail
                  go_roundw
                  case rel => exact ⟨k + 1, _, X, d, yl, by go_num, by omega, by omega, HSET, HYR⟩
                  case measure => simp [intOf]; omega
          · have hkl : (k : Int) < (la.length : Int) := by omega
            have hk40' : ¬ (k : Int) < 40 := by omega
            go_wp2_with fail
            refine (knows_any _).mono ?_
            rintro e w12 ⟨rfl, hb12⟩
            have HVK := Lib.hid (HV.out.next hb12)
            clear hb12
            go_wp2_with fail
            go_ret
            exact ⟨rfl, HVK.out.bl⟩
        · have hkl : ¬ (k : Int) < (la.length : Int) := by omega
          go_wp2_with fail
          refine (knows_any _).mono ?_
          rintro e w12 ⟨rfl, hb12⟩
          have HVK := Lib.hid (HV.out.next hb12)
          clear hb12
          go_wp2_with fail
          go_ret
          exact ⟨rfl, HVK.out.bl⟩
end Go.Proofs.Ytemcmhpfpfmgdaa
