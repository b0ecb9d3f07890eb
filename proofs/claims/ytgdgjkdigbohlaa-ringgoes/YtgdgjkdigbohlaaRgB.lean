import Derived.Test.YtgdgjkdigbohlaaRgA
import Derived.BigQuiet
import Derived.OneCell
import Derived.Deep.DeepCutAuto
import Derived.Deep.DeepMust
/-
  Words for lists of numbers in memory; the contracts of ring.Right and of the document's own Right, Has, SameInts, way. No condition but that the lists have at most a million numbers.
-/
namespace Go.Proofs.Ytgdgjkdigbohlaa
open Go.ChangeShapes Go.WideShapes Go.ChangeAt Go.RowKit
set_option linter.unusedVariables false

def vc (l : List Int) : List Value := l.map fun x => Value.int .i64 x
theorem vc_len (l : List Int) : (vc l).length = l.length := by unfold vc; simp
theorem vc_app (a b : List Int) : vc (a ++ b) = vc a ++ vc b := by unfold vc; simp
theorem vc_set (l : List Int) (k : Nat) (x : Int) : (vc l).set k (.int .i64 x) = vc (l.set k x) := by unfold vc; rw [List.map_set]
theorem vc_one (l : List Int) : ∀ u ∈ vc l, u.oneCell' = true := by
  intro u hu; unfold vc at hu; obtain ⟨b, _, rfl⟩ := List.mem_map.1 hu; rfl
/-- The number at a place. -/
def iAt (l : List Int) (k : Nat) : Int := l.getD k 0
theorem iAt_get (l : List Int) (k : Nat) (h : k < l.length) : iAt l k = l[k] := by unfold iAt; rw [List.getD_eq_getElem?_getD, List.getElem?_eq_getElem h]; rfl
theorem iAt_mem (l : List Int) (k : Nat) (h : k < l.length) : iAt l k ∈ l := by rw [iAt_get l k h]; exact List.getElem_mem h
theorem idrop_at (l : List Int) (k : Nat) (h : k < l.length) : l.drop k = iAt l k :: l.drop (k + 1) := by rw [iAt_get l k h]; exact List.drop_eq_getElem_cons h
theorem itake_at (l : List Int) (k : Nat) (h : k < l.length) : l.take (k + 1) = l.take k ++ [iAt l k] := by rw [iAt_get l k h]; exact List.take_succ_eq_append_getElem h
theorem vc_at (l : List Int) (k : Nat) (h : k < l.length) : (vc l)[k]? = some (.int .i64 (iAt l k)) := by unfold vc; rw [iAt_get l k h]; simp [List.getElem?_eq_getElem h]
theorem Lies.vs {w : World} {B : Nat} {A : Option Addr} {n : Nat} {l : List Int} (h : Lies w B 1 A n (vc l)) (k : Nat) (hk : k < l.length) : ∃ ad, A = some ad ∧ ad.block < B ∧ w.cell? (ad.add k) = some (.int .i64 (iAt l k)) :=
  h.2 k _ (vc_at l k hk)

theorem rise_step {a : Int} {l : List Int} {k : Nat} (h : k < l.length) : rise a (l.drop k) = (decide (1 ≤ iAt l k ∧ iAt l k ≤ 99 ∧ a < iAt l k) && rise (iAt l k) (l.drop (k + 1))) := by
  rw [idrop_at l k h]; rfl
theorem rgt_no {ms : List Int} (h : ¬ (1 ≤ ms.length ∧ ms.length ≤ 5)) : rgt ms = false := by unfold rgt; rw [decide_eq_false h]; rfl
theorem rgt_yes {ms : List Int} (h : 1 ≤ ms.length ∧ ms.length ≤ 5) : rgt ms = rise 0 ms := by unfold rgt; rw [decide_eq_true h]; rfl
def RiRel (ms : List Int) (w : World) (a i : Value) (W : World) : Prop := ∃ (k : Nat) (x : Int), i = .int .i64 k ∧ a = .int .i64 x ∧ k ≤ ms.length ∧ rise 0 ms = rise x (ms.drop k) ∧ W = w
set_option maxHeartbeats 1000000 in
theorem right_any (A : Option Addr) (c : Nat) (ms : List Int) (w : World) (hA : Lies w w.heap.size 1 A ms.length (vc ms)) (hn : ms.length ≤ 1000000) :
    Calls Try.prog 19 #[.slice A ms.length c] w fun e w' => e = .returned (.bool (rgt ms)) ∧ w = w' := by
  by_cases h1 : 1 ≤ ms.length
  · by_cases h5 : ms.length ≤ 5
    · have HF := Lib.hid (rgt_yes ⟨h1, h5⟩)
      have h1' : ¬ (ms.length : Int) < 1 := by omega
      have h5' : ¬ (5 : Int) < (ms.length : Int) := by omega
      go_enter Try.func19, Try.ntmps19
      go_wp2_with fail
      go_loopw [3, 16] (fun a i W => RiRel ms w a i W) (fun a i W => ms.length - (intOf i).toNat)
      case atStart => exact ⟨0, 0, rfl, rfl, Nat.zero_le _, rfl, rfl⟩
      case round =>
        obtain ⟨k, a, rfl, rfl, hk, hpre, rfl⟩ := hrel
        by_cases hlt : k < ms.length
        · obtain ⟨ad, rfl, hadb, e0⟩ := hA.vs k hlt
          have hkl : (k : Int) < (ms.length : Int) := by omega
          have HP := Lib.hid hpre
          have HR := Lib.hid (rise_step (a := a) hlt)
          clear hpre
          go_wp2_with fail
          refine (isw_any (iAt ms k) _).mono ?_
          rintro e w1 ⟨rfl, rfl⟩
          by_cases g1 : 1 ≤ iAt ms k ∧ iAt ms k ≤ 99
          · rw [wkB_yes g1]
            by_cases g2 : a < iAt ms k
            · have HT := Lib.hid (show rise 0 ms = rise (iAt ms k) (ms.drop (k + 1)) by rw [HP.out, HR.out, decide_eq_true ⟨g1.1, g1.2, g2⟩]; rfl)
              have g3 : ¬ iAt ms k ≤ a := by omega
              clear g1
              go_wp2_with fail
              go_roundw
              case rel => exact ⟨k + 1, _, by go_num, rfl, by omega, HT.out, rfl⟩
              case measure => simp [intOf]; omega
            · have HT := Lib.hid (show rgt ms = false by rw [HF.out, HP.out, HR.out, decide_eq_false (by omega)]; rfl)
              have g3 : iAt ms k ≤ a := by omega
              clear g1
              go_wp2_with fail
              go_ret
              exact ⟨ret_bool HT.out.symm, rfl⟩
          · rw [wkB_no g1]
            have HT := Lib.hid (show rgt ms = false by rw [HF.out, HP.out, HR.out, decide_eq_false (by omega)]; rfl)
            clear g1
            go_wp2_with fail
            go_ret
            exact ⟨ret_bool HT.out.symm, rfl⟩
        · have hk' : k = ms.length := by omega
          subst hk'
          have HT := Lib.hid (show rgt ms = true by rw [HF.out, hpre, List.drop_length]; rfl)
          clear hpre
          go_wp2_with fail
          go_ret
          exact ⟨ret_bool HT.out.symm, rfl⟩
    · have HF := Lib.hid (rgt_no (ms := ms) (fun h => h5 h.2))
      have h1' : ¬ (ms.length : Int) < 1 := by omega
      have h5' : (5 : Int) < (ms.length : Int) := by omega
      go_enter Try.func19, Try.ntmps19
      go_wp2_with fail
      go_ret
      exact ⟨ret_bool HF.out.symm, rfl⟩
  · have HF := Lib.hid (rgt_no (ms := ms) (fun h => h1 h.1))
    have h1' : (ms.length : Int) < 1 := by omega
    go_enter Try.func19, Try.ntmps19
    go_wp2_with fail
    go_ret
    exact ⟨ret_bool HF.out.symm, rfl⟩
/-- The number ahead of a place, or 0. -/
def lastV (l : List Int) (k : Nat) : Int := if k = 0 then 0 else iAt l (k - 1)
theorem lastV_succ (l : List Int) (k : Nat) : lastV l (k + 1) = iAt l k := by unfold lastV; rw [if_neg (by omega)]; rfl
def RrRel (ms : List Int) (w : World) (o i : Value) (W : World) : Prop := ∃ (k : Nat) (b : Bool), i = .int .i64 k ∧ o = .bool b ∧ k ≤ ms.length ∧ rgt ms = (b && rise (lastV ms k) (ms.drop k)) ∧ Below w.heap.size w W
set_option maxHeartbeats 2000000 in
theorem rright_any (A : Option Addr) (c : Nat) (ms : List Int) (w : World) (hA : Lies w w.heap.size 1 A ms.length (vc ms)) (hn : ms.length ≤ 1000000) :
    Calls Try.prog 20 #[.slice A ms.length c] w fun e w' => e = .returned (.bool (rgt ms)) ∧ Below w.heap.size w w' := by
  have HA := Lib.hid hA
  have rest : ∀ b0 : Bool, b0 = decide (1 ≤ ms.length ∧ ms.length ≤ 5) → RrRel ms w (.bool b0) (.int .i64 0) w := fun b0 hb => ⟨0, b0, rfl, rfl, Nat.zero_le _, by rw [hb]; rfl, Below.refl _ _⟩
  have step : True := trivial
  obtain ⟨b0, hb0⟩ : ∃ b0 : Bool, b0 = decide (1 ≤ ms.length ∧ ms.length ≤ 5) := ⟨_, rfl⟩
  have HREL := Lib.hid (rest b0 hb0)
  have HB0 := Lib.hid hb0
  clear rest step hA hb0
  go_enter Try.func20, Try.ntmps20
  go_upto_region 1 with fail
  go_cut [3] (fun o W => o = .bool b0 ∧ W = w)
  case first =>
    by_cases h1 : 1 ≤ ms.length
    · have h1' : (0 : Int) < (ms.length : Int) := by omega
      by_cases h5 : ms.length ≤ 5
      · have h5' : (ms.length : Int) ≤ 5 := by omega
        have hd : b0 = true := by rw [HB0.out]; exact decide_eq_true ⟨h1, h5⟩
        subst hd
        go_wp2_with fail
        go_meet
        exact ⟨rfl, rfl⟩
      · have h5' : ¬ (ms.length : Int) ≤ 5 := by omega
        have hd : b0 = false := by rw [HB0.out]; exact decide_eq_false (fun h => h5 h.2)
        subst hd
        go_wp2_with fail
        go_meet
        exact ⟨rfl, rfl⟩
    · have h1' : ¬ (0 : Int) < (ms.length : Int) := by omega
      have hd : b0 = false := by rw [HB0.out]; exact decide_eq_false (fun h => h1 h.1)
      subst hd
      go_wp2_with fail
      go_meet
      exact ⟨rfl, rfl⟩
  case rest =>
    obtain ⟨rfl, rfl⟩ := hcut
    go_wp2_with fail
    go_loopw [3, 4] (fun o i W => RrRel ms wc o i W) (fun o i W => ms.length - (intOf i).toNat)
    case atStart => exact HREL.out
    case round =>
      obtain ⟨k, b, rfl, rfl, hk, hpre, hb⟩ := hrel
      have HP := Lib.hid hpre
      have HB := Lib.hid hb
      clear hpre
      by_cases hlt : k < ms.length
      · obtain ⟨ad, rfl, hadb, e0⟩ := (HA.out.below hb).vs k hlt
        have hkl : (k : Int) < (ms.length : Int) := by omega
        have HR := Lib.hid (rise_step (a := lastV ms k) hlt)
        have HE := Lib.hid (lastV_succ ms k)
        clear hb
        have fin : ∀ b' : Bool, b' = (b && decide (1 ≤ iAt ms k ∧ iAt ms k ≤ 99 ∧ lastV ms k < iAt ms k)) → rgt ms = (b' && rise (lastV ms (k + 1)) (ms.drop (k + 1))) := by
          intro b' hb'
          rw [HP.out, HR.out, HE.out, hb', Bool.and_assoc]
        have FIN := Lib.hid fin
        clear fin
        cases b with
        | false =>
          have HT := Lib.hid (FIN.out false rfl)
          go_upto_region 2 with fail
          go_quiet (fail)
          go_wp2_with fail
          go_roundw
          case rel => exact ⟨k + 1, false, by go_num, rfl, by omega, HT.out, below_to_drewN HB.out _⟩
          case measure => simp [intOf]; omega
        | true =>
          by_cases g1 : 1 ≤ iAt ms k
          · by_cases g2 : iAt ms k ≤ 99
            · by_cases k0 : k = 0
              · have HT := Lib.hid (FIN.out true (by rw [decide_eq_true ⟨g1, g2, by rw [k0]; show (0 : Int) < _; rw [k0] at g1; omega⟩]; rfl))
                have k0' : ((k : Int) == 0) = true := by rw [k0]; rfl
                clear k0
                go_upto_region 2 with fail
                go_quiet (fail)
                go_wp2_with fail
                go_roundw
                case rel => exact ⟨k + 1, true, by go_num, rfl, by omega, HT.out, below_to_drewN HB.out _⟩
                case measure => simp [intOf]; omega
              · obtain ⟨ad', ea, hadb', e1⟩ := (HA.out.below HB.out).vs (k - 1) (by omega)
                injection ea with ea
                subst ea
                have k0' : ((k : Int) == 0) = false := by simp; omega
                have HQ := Lib.hid (show lastV ms k = iAt ms (k - 1) by unfold lastV; rw [if_neg k0])
                have hk1 : ((k : Int) - 1) = ((k - 1 : Nat) : Int) := by omega
                have hk2 : ((k - 1 : Nat) : Int) < (ms.length : Int) := by omega
                by_cases g3 : iAt ms (k - 1) < iAt ms k
                · have HT := Lib.hid (FIN.out true (by rw [decide_eq_true ⟨g1, g2, by rw [HQ.out]; exact g3⟩]; rfl))
                  clear k0
                  go_upto_region 2 with fail
                  go_quiet (fail)
                  go_wp2_with fail
                  go_roundw
                  case rel => exact ⟨k + 1, true, by go_num, rfl, by omega, HT.out, below_to_drewN HB.out _⟩
                  case measure => simp [intOf]; omega
                · have HT := Lib.hid (FIN.out false (by rw [decide_eq_false (by rw [HQ.out]; omega)]; rfl))
                  have g3' := decide_eq_false g3
                  clear k0 g3
                  go_upto_region 2 with fail
                  go_quiet (fail)
                  go_wp2_with fail
                  go_roundw
                  case rel => exact ⟨k + 1, false, by go_num, rfl, by omega, HT.out, below_to_drewN HB.out _⟩
                  case measure => simp [intOf]; omega
            · have HT := Lib.hid (FIN.out false (by rw [decide_eq_false (by omega)]; rfl))
              have g2' := decide_eq_false g2
              clear g2
              go_upto_region 2 with fail
              go_quiet (fail)
              go_wp2_with fail
              go_roundw
              case rel => exact ⟨k + 1, false, by go_num, rfl, by omega, HT.out, below_to_drewN HB.out _⟩
              case measure => simp [intOf]; omega
          · have HT := Lib.hid (FIN.out false (by rw [decide_eq_false (by omega)]; rfl))
            have g1' := decide_eq_false g1
            clear g1
            go_upto_region 2 with fail
            go_quiet (fail)
            go_wp2_with fail
            go_roundw
            case rel => exact ⟨k + 1, false, by go_num, rfl, by omega, HT.out, below_to_drewN HB.out _⟩
            case measure => simp [intOf]; omega
      · have hk' : k = ms.length := by omega
        subst hk'
        have HT := Lib.hid (show rgt ms = b by rw [HP.out, List.drop_length]; cases b <;> rfl)
        clear hb
        go_wp2_with fail
        go_ret
        exact ⟨ret_bool HT.out.symm, HB.out⟩
end Go.Proofs.Ytgdgjkdigbohlaa
